package watch_test

import (
	"slices"
	"testing"

	"firetower/api"
	"firetower/watch"
)

// orders returns the orders of a source.
func orders(t *testing.T, source string) []api.Order {
	t.Helper()
	return parsed(t, source).Orders
}

func TestP8_8Decide(t *testing.T) {
	l := orders(t, example+"order top rank 5 if cell < 0; order send if cell <= 8 and seen >= 2; order any if cell >= 10; order more rank 1 if hour >= 20;")
	for _, x := range []struct {
		f  facts
		i  int
		is bool
	}{
		{facts{3, 2, 0, 12}, 0, true}, {facts{3, 1, 0, 12}, 1, true}, {facts{10, 2, 0, 12}, 4, true}, {facts{9, 1, 0, 5}, 0, false}, {facts{9, 1, 0, 20}, 1, true}, {facts{9, 2, 0, 20}, 5, true}, {facts{9, 2, 0, 19}, 0, true},
	} {
		if i, is, e := watch.Decide(l, x.f); i != x.i || is != x.is || e != api.OK {
			t.Error(x, i, is, e)
		}
	}
	if i, is, e := watch.Decide(nil, facts{}); i != 0 || is || e != api.OK {
		t.Error(i, is, e)
	}
}

func TestP8_8Unused(t *testing.T) {
	for _, x := range []struct {
		source string
		want   []int
	}{
		{example, nil}, {"", nil},
		{"order a if cell < 0;", []int{0}},
		{"order a if cell = 1; order a if cell = 1;", []int{1}},
		{"order a if cell = 1; order a rank 1 if cell = 1;", []int{0}},
		{"order a if cell >= 5; order b if cell = 7; order c if cell > 4; order d if cell = 4 and cell = 5; order e if cell <= 5;", []int{1, 2, 3}},
		{"order a if cell > 10000; order b if cell >= 10000; order c rank 3 if cell < 10000; order d if cell = 0;", []int{0, 3}},
		{"order a if seen = 3 and age = 2; order b rank 2 if age > 1 and age < 3;", []int{0}},
	} {
		if got, e := watch.Unused(orders(t, x.source)); !slices.Equal(got, x.want) || e != api.OK {
			t.Error(x, got, e)
		}
	}
}

func TestP8_8SameOrders(t *testing.T) {
	for _, x := range []struct {
		a, b string
		f    facts
		same bool
	}{
		{"", "", facts{}, true},
		{example, example, facts{}, true},
		{"order a if cell < 0;", "", facts{}, true},
		{"order a if cell = 3;", "", facts{3}, false},
		{"order a if cell = 3; order b if cell = 3;", "order a if cell = 3;", facts{}, true},
		{"order a if cell = 3; order b if cell = 3;", "order b if cell = 3; order a if cell = 3;", facts{3}, false},
		{"order a if cell >= 3; order a if cell < 3;", "order a rank 7 if cell >= 0;", facts{}, true},
		{"order a if cell >= 3; order b rank 1 if seen > 5;", "order b if seen > 5; order a if cell > 2;", facts{}, true},
		{"order a if cell >= 3; order b if seen > 5;", "order b if seen > 5; order a if cell > 2;", facts{3, 6}, false},
		{"order a if free <= 10000;", "order a if free < 10000;", facts{0, 0, 0, 0, 10000}, false},
	} {
		a, b := orders(t, x.a), orders(t, x.b)
		for range 2 {
			if f, same, e := watch.SameOrders(a, b); f != x.f || same != x.same || e != api.OK {
				t.Error(x, f, same, e)
			}
			a, b = b, a
		}
	}
}

func TestP8_8Random(t *testing.T) {
	r := random(40)
	seen := map[api.Errno]int{}
	none, idle, same := 0, 0, 0
	for i := range 600 {
		number := []func() int{low(r), ends(r), wide(r)}[i%3]
		a := randomOrders(r, 5, 3, number)
		if i%3 == 2 && len(a) > 3 {
			a[0].When = comparisons(r, 30, number)
		}
		b := slices.Clone(a)
		if len(b) > 0 && r.IntN(2) == 0 {
			i := r.IntN(len(b))
			b = slices.Delete(b, i, i+1)
		} else {
			b = append(b, randomOrders(r, 2, 2, number)...)
		}
		for range 5 {
			f := randomFacts(r)
			want := plainGiven(a, f)
			got, is, e := watch.Decide(a, f)
			if got != max(want, 0) || is != (want >= 0) || e != api.OK {
				t.Fatal(a, f, got, is, e)
			}
			if !is {
				none++
			}
		}
		looked, e := plainChoices(conditions(a...))
		var unused []int
		for i := range a {
			if e == api.OK && !slices.ContainsFunc(looked, func(f facts) bool { return plainGiven(a, f) == i }) {
				unused = append(unused, i)
			}
		}
		if got, err := watch.Unused(a); !slices.Equal(got, unused) || err != e {
			t.Fatal(a, got, err, "instead of", unused, e)
		}
		idle += len(unused)
		f, is, e := plainAlways(conditions(append(slices.Clone(a), b...)...), func(f facts) bool { return plainName(a, f) == plainName(b, f) })
		if g, got, err := watch.SameOrders(a, b); g != f || got != is || err != e {
			t.Fatal(a, b, g, got, err, "instead of", f, is, e)
		}
		seen[e]++
		if is {
			same++
		}
	}
	counted(t, "facts without an order", none, 300)
	counted(t, "orders that are never given", idle, 50)
	counted(t, "lists that give the same", same, 50)
	counted(t, "lists with too many numbers", seen[api.ErrCells], 30)
}

func TestP8_14Orders(t *testing.T) {
	r := random(41)
	left, given := 0, 0
	for i := range 400 {
		number := []func() int{low(r), ends(r)}[i%2]
		l := randomOrders(r, 8, 3, number)
		unused, e := watch.Unused(l)
		if e != api.OK {
			continue
		}
		var used []api.Order
		var from []int
		for i, o := range l {
			if !slices.Contains(unused, i) {
				used = append(used, o)
				from = append(from, i)
			}
		}
		left += len(unused)
		if f, same, e := watch.SameOrders(l, used); f != (facts{}) || !same || e != api.OK {
			t.Fatal(l, used, f, same, e)
		}
		if again, e := watch.Unused(used); len(again) > 0 || e != api.OK {
			t.Fatal(l, used, again, e)
		}
		for range 30 {
			f := facts{oneOf(r, 0, 1, 2, 3, 10000), r.IntN(4), oneOf(r, 0, 9999, 10000), r.IntN(10001), number()}
			i, is, _ := watch.Decide(l, f)
			j, still, _ := watch.Decide(used, f)
			if is != still || is && from[j] != i {
				t.Fatal(l, used, f, i, is, j, still)
			}
			if !is {
				continue
			}
			given++
			for k, o := range l {
				if holds, _ := watch.Holds(o.When, f); holds && (o.Rank > l[i].Rank || o.Rank == l[i].Rank && k < i) {
					t.Fatal(l, f, i, k)
				}
			}
		}
	}
	counted(t, "orders that are left out", left, 200)
	counted(t, "orders that are given", given, 3000)
}
