package watch_test

import (
	"math"
	"slices"
	"testing"

	"firetower/api"
	"firetower/watch"
)

func TestP8_6Holds(t *testing.T) {
	f := facts{3, 2, 100, 12, 1}
	for source, want := range map[string]bool{
		"cell = 3": true, "cell = 4": false, "cell != 3": false, "cell != 2": true, "cell < 3": false, "cell < 4": true, "cell <= 3": true, "cell <= 2": false, "cell > 3": false, "cell > 2": true, "cell >= 3": true, "cell >= 4": false,
		"seen = 2": true, "age = 100": true, "hour = 12": true, "free = 1": true, "seen = 3 or age = 2 or hour = 100 or free = 12": false,
		"cell = 3 and seen = 3": false, "cell = 4 and seen = 2": false, "cell = 3 and seen = 2": true, "cell = 4 or seen = 3": false, "cell = 3 or seen = 3": true, "cell = 4 or seen = 2": true,
		"not cell = 3": false, "not cell = 4": true, "not not cell = 3": true, "not (cell = 3 and seen = 3)": true, "not (cell = 3 or seen = 3)": false,
	} {
		if is, e := watch.Holds(cond(t, source), f); is != want || e != api.OK {
			t.Error(source, is, e)
		}
	}
}

func TestP8_6Facts(t *testing.T) {
	c := cond(t, "cell >= 0")
	for i := range api.Facts {
		for n, want := range map[int]api.Errno{0: api.OK, 10000: api.OK, -1: api.ErrArg, 10001: api.ErrArg, math.MinInt: api.ErrArg, math.MaxInt: api.ErrArg} {
			var f facts
			f[i] = n
			is, e := watch.Holds(c, f)
			if e != want || is != (want == api.OK) {
				t.Error(f, is, e)
			}
			at, given, e := watch.Decide([]api.Order{{Name: "no", When: not(c)}, {Name: "yes", When: c}}, f)
			if e != want || given != (want == api.OK) || given != (at == 1) {
				t.Error(f, at, given, e)
			}
		}
	}
}

func TestP8_6Inward(t *testing.T) {
	for _, x := range [][2]string{
		{"not cell = 1", "cell != 1"}, {"not cell != 1", "cell = 1"}, {"not seen < 2", "seen >= 2"}, {"not seen >= 2", "seen < 2"}, {"not age > 3", "age <= 3"}, {"not age <= 3", "age > 3"},
		{"hour = 1", "hour = 1"}, {"free < 0", "free < 0"}, {"not not cell <= 1", "cell <= 1"}, {"not not not cell <= 1", "cell > 1"},
		{"not (seen > 1 or hour < 6)", "seen <= 1 and hour >= 6"}, {"not (seen > 1 and hour < 6)", "seen <= 1 or hour >= 6"}, {"seen > 1 or not hour < 6", "seen > 1 or hour >= 6"}, {"not seen > 1 and hour < 6", "seen <= 1 and hour < 6"},
		{"not (cell = 1 and not (age != 2 or age >= 3))", "cell != 1 or (age != 2 or age >= 3)"}, {"not (not cell = 1 or not (seen = 2 and not free = 3))", "cell = 1 and (seen = 2 and free != 3)"},
	} {
		c, e := watch.Inward(cond(t, x[0]))
		if got, _ := watch.PrintCond(c); got != x[1] || e != api.OK {
			t.Error(x, got, e)
		}
	}
}

// plainInward returns what Inward has to find of a condition, or of CoNot of it.
func plainInward(c api.Cond, negated bool) api.Cond {
	if c.Kind == api.CoNot {
		return plainInward(c.Kids[0], !negated)
	}
	if negated {
		c.Kind = []int{api.CoIs: api.CoIs, api.CoAnd: api.CoOr, api.CoOr: api.CoAnd}[c.Kind]
		c.Op = []int{0, api.OpEqual: api.OpOther, api.OpOther: api.OpEqual, api.OpLess: api.OpLeast, api.OpLeast: api.OpLess, api.OpMore: api.OpMost, api.OpMost: api.OpMore}[c.Op]
	}
	var kids []api.Cond
	for _, kid := range c.Kids {
		kids = append(kids, plainInward(kid, negated))
	}
	c.Kids = kids
	return c
}

func TestP8_6Random(t *testing.T) {
	r := random(30)
	holds := 0
	for range 2000 {
		c := randomCond(r, 6, wide(r))
		if watch.Check(api.Watch{Orders: []api.Order{{Name: "a", When: c}}}) != api.OK {
			continue
		}
		in, e := watch.Inward(c)
		if !sameCond(in, plainInward(c, false)) || e != api.OK {
			t.Fatal(c, in, e)
		}
		for range 5 {
			f := randomFacts(r)
			is, e := watch.Holds(c, f)
			if is != plainHolds(c, f) || e != api.OK {
				t.Fatal(c, f, is, e)
			}
			if is {
				holds++
			}
		}
	}
	counted(t, "facts for which a condition holds", holds, 2000)
}

func TestP8_7Table(t *testing.T) {
	for _, x := range []struct {
		a, b    string
		implies facts
		then    bool
		equal   facts
		same    bool
	}{
		{"cell < 5", "cell <= 9", facts{}, true, facts{5}, false},
		{"cell <= 9", "cell < 5", facts{5}, false, facts{5}, false},
		{"cell < 5", "not cell >= 5", facts{}, true, facts{}, true},
		{"cell < 5", "cell <= 4", facts{}, true, facts{}, true},
		{"cell > 4", "cell >= 5", facts{}, true, facts{}, true},
		{"age <= 10000", "cell >= 0", facts{}, true, facts{}, true},
		{"age < 10000", "cell >= 0", facts{}, true, facts{0, 0, 10000}, false},
		{"cell >= 0", "age < 10000", facts{0, 0, 10000}, false, facts{0, 0, 10000}, false},
		{"cell > 10000", "seen = 7", facts{}, true, facts{0, 7}, false},
		{"cell > 9999", "cell = 10000", facts{}, true, facts{}, true},
		{"cell != 0", "cell >= 1", facts{}, true, facts{}, true},
		{"seen > 2 and hour != 0", "hour > 1", facts{0, 3, 0, 1}, false, facts{0, 0, 0, 2}, false},
		{"free = 3 or free = 4 or free = 5", "free > 2 and free < 6", facts{}, true, facts{}, true},
		{"free > 2 and free < 6", "free = 3 or free = 5", facts{0, 0, 0, 0, 4}, false, facts{0, 0, 0, 0, 4}, false},
		{"cell = 0", "seen = 0", facts{0, 1}, false, facts{0, 1}, false},
		{"cell > 3", "cell > 3 and (seen = 1 or seen != 1)", facts{}, true, facts{}, true},
		{"cell > 3", "cell > 5 or cell < 4", facts{4}, false, facts{0}, false},
	} {
		a, b := cond(t, x.a), cond(t, x.b)
		if f, is, e := watch.Implies(a, b); f != x.implies || is != x.then || e != api.OK {
			t.Error(x, f, is, e)
		}
		if f, is, e := watch.Equal(a, b); f != x.equal || is != x.same || e != api.OK {
			t.Error(x, f, is, e)
		}
	}
}

// stairs returns a condition that compares each fact with the numbers from 0 on, so that so many numbers of it are looked at.
func stairs(counts ...int) []api.Cond {
	var out []api.Cond
	for fact, n := range counts {
		for i := range n - 1 {
			out = append(out, is(fact, api.OpEqual, i))
		}
	}
	return out
}

func TestP8_7Limit(t *testing.T) {
	for _, x := range []struct {
		counts []int
		e      api.Errno
	}{
		{[]int{10, 10, 10, 5, 4}, api.OK}, {[]int{4, 5, 10, 10, 10}, api.OK}, {[]int{10, 10, 10, 5, 5}, api.ErrCells}, {[]int{13, 11, 10, 7, 2}, api.ErrCells}, {[]int{2, 7, 10, 11, 13}, api.ErrCells}, {[]int{20, 20, 20}, api.OK}, {[]int{1, 12, 12, 12, 12}, api.ErrCells},
	} {
		l := stairs(x.counts...)
		a, b := joined(api.CoOr, l[:len(l)/2]), joined(api.CoOr, l[len(l)/2:])
		_, is, e := watch.Equal(a, b)
		mustBe(t, e, x.e, "Equal", x.counts, is)
		f, is, e := watch.Implies(a, a)
		if f != (facts{}) || !is || e != api.OK {
			t.Error(f, is, e)
		}
		f, is, e = watch.Implies(b, a)
		mustBe(t, e, x.e, "Implies", x.counts, f, is)
		orders := []api.Order{{Name: "a", When: a}, {Name: "b", When: b}}
		unused, e := watch.Unused(orders)
		mustBe(t, e, x.e, "Unused", x.counts, unused)
		f, is, e = watch.SameOrders(orders[:1], orders[1:])
		mustBe(t, e, x.e, "SameOrders", x.counts, f, is)
		if e != api.OK && (f != facts{} || is || len(unused) > 0) {
			t.Error(f, is, unused)
		}
	}
}

func TestP8_7Random(t *testing.T) {
	r := random(31)
	seen := map[api.Errno]int{}
	then, same := 0, 0
	for i := range 1500 {
		number := []func() int{low(r), ends(r), wide(r)}[i%3]
		deep := 1 + r.IntN(5)
		a, b := randomCond(r, deep, number), randomCond(r, deep, number)
		switch r.IntN(4) {
		case 0:
			a, b = not(not(a)), plainInward(a, false)
		case 1:
			b = both(api.CoAnd, a, b)
		case 2:
			if i%3 == 2 {
				a, b = comparisons(r, 20, number), comparisons(r, 20, number)
			}
		}
		l := []api.Cond{a, b}
		want, is, e := plainAlways(l, func(f facts) bool { return plainHolds(a, f) == plainHolds(b, f) })
		if f, got, err := watch.Equal(a, b); f != want || got != is || err != e {
			t.Fatal(a, b, f, got, err, "instead of", want, is, e)
		}
		if is {
			same++
		}
		want, is, e = plainAlways(l, func(f facts) bool { return !plainHolds(a, f) || plainHolds(b, f) })
		if f, got, err := watch.Implies(a, b); f != want || got != is || err != e {
			t.Fatal(a, b, f, got, err, "instead of", want, is, e)
		}
		if is {
			then++
		}
		seen[e]++
	}
	counted(t, "conditions that mean the same", same, 50)
	counted(t, "conditions that follow", then, 200)
	counted(t, "conditions with too many numbers", seen[api.ErrCells], 30)
}

// all returns all facts with numbers of a list.
func all(numbers ...int) []facts {
	out := []facts{{}}
	for fact := range api.Facts {
		var next []facts
		for _, f := range out {
			for _, n := range numbers {
				f[fact] = n
				next = append(next, f)
			}
		}
		out = next
	}
	return out
}

// What is told of two conditions is right for all facts, also those that were not looked at. (In between the numbers that are listed here nothing changes.)
func TestP8_13Conditions(t *testing.T) {
	r := random(32)
	same, other := 0, 0
	for i := range 400 {
		number, every := low(r), all(0, 1, 2, 3, 10000)
		if i%2 == 0 {
			number, every = ends(r), all(0, 1, 2, 9998, 9999, 10000)
		}
		a, b := randomCond(r, 1+r.IntN(4), number), randomCond(r, 1+r.IntN(4), number)
		if r.IntN(3) == 0 {
			b, _ = watch.Inward(not(not(a)))
		}
		in, _ := watch.Inward(a)
		equal, is, e := watch.Equal(a, b)
		there, ab, e1 := watch.Implies(a, b)
		back, ba, e2 := watch.Implies(b, a)
		if e != e1 || e1 != e2 || is != (ab && ba) {
			t.Fatal(a, b, is, ab, ba, e, e1, e2)
		}
		if !ab && (!plainHolds(a, there) || plainHolds(b, there)) || !ba && (plainHolds(a, back) || !plainHolds(b, back)) || !is && plainHolds(a, equal) == plainHolds(b, equal) {
			t.Fatal(a, b, equal, there, back)
		}
		for _, f := range every {
			if plainHolds(a, f) != plainHolds(in, f) {
				t.Fatal(a, in, f)
			}
		}
		onlyA := slices.ContainsFunc(every, func(f facts) bool { return plainHolds(a, f) && !plainHolds(b, f) })
		onlyB := slices.ContainsFunc(every, func(f facts) bool { return plainHolds(b, f) && !plainHolds(a, f) })
		if ab == onlyA || ba == onlyB {
			t.Fatal(a, b, ab, ba, onlyA, onlyB)
		}
		if is {
			same++
		} else {
			other++
		}
	}
	counted(t, "conditions that mean the same", same, 50)
	counted(t, "conditions that do not", other, 100)
}
