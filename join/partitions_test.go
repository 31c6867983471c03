package join_test

import (
	"math"
	"math/rand/v2"
	"slices"
	"testing"

	"firetower/api"
	"firetower/join"
)

func TestP7_4PartitionsOfExamples(t *testing.T) {
	d := example()
	none := api.Day{Service: d.Service}
	for _, x := range []struct {
		d      api.Day
		count  []int
		fewest int
	}{
		{d, []int{0, 0, 1, 1}, 2}, {more(d, blank()), []int{0, 0, 0, 1}, 3}, {none, []int{1}, 0}, {more(none, blank()), []int{1}, 0},
		{full(7, 0), []int{0, 1, 63, 301, 350, 140, 21, 1}, 1}, {full(1, 10), []int{0, 1}, 1},
	} {
		if l, e := join.Count(x.d); !slices.Equal(l, x.count) || e != api.OK {
			t.Error(l, e, "instead of", x.count)
		}
		if n, e := join.Fewest(x.d); n != x.fewest || e != api.OK {
			t.Error(n, e, "instead of", x.fewest)
		}
		for n := range 8 {
			want := 0
			if n < len(x.count) {
				want = x.count[n]
			}
			if l, e := join.Partitions(x.d, n); len(l) != want || e != api.OK {
				t.Error(n, l, e, "instead of", want)
			}
		}
	}
	if l, e := join.Partitions(d, 2); len(l) != 1 || !sameSets(l[0], parted([]int{1, 2}, []int{3})) || e != api.OK {
		t.Error(l, e)
	}
	if l, e := join.Partitions(none, 0); len(l) != 1 || len(l[0]) != 0 || e != api.OK {
		t.Error(l, e)
	}
}

// The sighting 2 stands in the first set before it stands in a second one, and so on.
func TestP7_4OrderOfPartitions(t *testing.T) {
	d := full(4, 0)
	got, e := join.Partitions(d, 2)
	want := [][][]int{
		{{97, 98, 99}, {100}}, {{97, 98, 100}, {99}}, {{97, 98}, {99, 100}}, {{97, 99, 100}, {98}}, {{97, 99}, {98, 100}}, {{97, 100}, {98, 99}}, {{97}, {98, 99, 100}},
	}
	if !slices.EqualFunc(got, want, sameSets) || e != api.OK {
		t.Error(got, e, "instead of", want)
	}
}

func TestP7_4NumbersOfSmokes(t *testing.T) {
	for _, n := range []int{-1, 8, math.MinInt, math.MaxInt} {
		for _, d := range []api.Day{example(), clashing(), {Service: example().Service}} {
			if l, e := join.Partitions(d, n); len(l) != 0 || e != api.ErrArg {
				t.Error(n, l, e)
			}
		}
	}
}

func TestP7_4Clash(t *testing.T) {
	if n, e := join.Fewest(clashing()); n != 0 || e != api.ErrClash {
		t.Error(n, e)
	}
	if l, e := join.Count(clashing()); !slices.Equal(l, make([]int, 5)) || e != api.OK {
		t.Error(l, e)
	}
}

func TestP7_4Partitions(t *testing.T) {
	r := random(20)
	var clashes, several int
	for range 400 {
		d := randomDay(r, 10, 7)
		x := plainly(d)
		count := make([]int, len(x.ids)+1)
		for _, p := range x.all {
			count[len(p)]++
		}
		if l, e := join.Count(d); !slices.Equal(l, count) || e != api.OK {
			t.Fatal(d, l, e, "instead of", count)
		}
		for n := range 8 {
			want := slices.DeleteFunc(slices.Clone(x.all), func(p [][]int) bool { return len(p) != n })
			if l, e := join.Partitions(d, n); !slices.EqualFunc(l, want, sameSets) || e != api.OK {
				t.Fatal(d, n, l, e, "instead of", want)
			}
		}
		if len(x.best) == 0 {
			clashes++
			if n, e := join.Fewest(d); n != 0 || e != api.ErrClash {
				t.Fatal(d, n, e)
			}
			continue
		}
		if n, e := join.Fewest(d); n != len(x.best[0]) || e != api.OK {
			t.Fatal(d, n, e)
		}
		if len(x.best) > 1 {
			several++
		}
	}
	counted(t, "days without partitions", clashes, 30)
	counted(t, "days with several best ones", several, 50)
}

func TestP7_5CheckPartitionOfExamples(t *testing.T) {
	d := example()
	for _, x := range []struct {
		p [][]int
		e api.Errno
	}{
		{parted([]int{1, 2}, []int{3}), api.OK}, {parted([]int{1}, []int{2}, []int{3}), api.OK},
		{parted([]int{3}, []int{1, 2}), api.ErrProof}, {parted([]int{2}, []int{1}, []int{3}), api.ErrProof}, {parted([]int{2, 1}, []int{3}), api.ErrProof},
		{parted([]int{1, 3}, []int{2}), api.ErrProof}, {parted([]int{1}, []int{2, 3}), api.ErrProof}, {parted([]int{1, 2, 3}), api.ErrProof},
		{parted([]int{1, 2}), api.ErrProof}, {parted([]int{1}, []int{3}), api.ErrProof}, {nil, api.ErrProof}, {parted(nil), api.ErrProof},
		{parted([]int{1, 2}, []int{2}, []int{3}), api.ErrProof}, {parted([]int{1, 2}, []int{3}, []int{3}), api.ErrProof}, {parted([]int{1, 1, 2}, []int{3}), api.ErrProof},
		{parted([]int{1, 2}, []int{3}, nil), api.ErrProof}, {parted(nil, []int{1, 2}, []int{3}), api.ErrProof}, {parted([]int{1, 2}, []int{}, []int{3}), api.ErrProof},
		{parted([]int{1, 2}, []int{3}, []int{4}), api.ErrProof}, {parted([]int{0}, []int{1, 2}, []int{3}), api.ErrProof}, {parted([]int{1, 2, 9}, []int{3}), api.ErrProof},
		{slices.Repeat(parted([]int{1, 2}), 1000), api.ErrProof}, {make([][]int, 1000), api.ErrProof},
	} {
		mustBe(t, join.CheckPartition(d, x.p), x.e, x.p)
	}
	// The ID of a blank is none of a sighting.
	mustBe(t, join.CheckPartition(more(d, blank()), parted([]int{1}, []int{2}, []int{3}, []int{4})), api.ErrProof, "blank")
	mustBe(t, join.CheckPartition(more(d, blank()), parted([]int{1, 2}, []int{3})), api.ErrProof, "not possible by the blank")
	d.Reports = nil
	for _, p := range [][][]int{nil, {}} {
		mustBe(t, join.CheckPartition(d, p), api.OK, "no sets")
	}
	for _, p := range [][][]int{{nil}, {{1}}} {
		mustBe(t, join.CheckPartition(d, p), api.ErrProof, p)
	}
}

func TestP7_5LeastOfExamples(t *testing.T) {
	j, _ := join.Table(example())
	far := api.Joins{Fits: []api.Fit{{IDs: []int{math.MaxInt, -5, 0}}, {}, {IDs: []int{7, 7, math.MinInt}}}}
	for _, x := range []struct {
		ids  []int
		j    api.Joins
		want int
		e    api.Errno
	}{
		{[]int{1, 2, 3}, j, 2, api.OK}, {[]int{1, 2}, j, 1, api.OK}, {[]int{2, 3}, j, 2, api.OK}, {[]int{3}, j, 1, api.OK}, {nil, j, 0, api.OK}, {[]int{}, api.Joins{}, 0, api.OK},
		{[]int{4}, j, 0, api.ErrClash}, {[]int{1, 2, 3, 4}, j, 0, api.ErrClash}, {[]int{1}, api.Joins{}, 0, api.ErrClash}, {[]int{1, 3}, api.Joins{Fits: j.Fits[:1]}, 0, api.ErrClash},
		// Least does not ask whether the table is proved, or what the IDs are.
		{[]int{-5, 0, math.MaxInt}, far, 1, api.OK}, {[]int{math.MinInt, -5, 7}, far, 2, api.OK}, {[]int{math.MinInt, -5, 6}, far, 0, api.ErrClash},
		{[]int{1, 1}, j, 0, api.ErrArg}, {[]int{2, 1}, j, 0, api.ErrArg}, {[]int{1, 3, 2}, j, 0, api.ErrArg}, {[]int{9, 8}, j, 0, api.ErrArg}, {[]int{5, 5}, api.Joins{}, 0, api.ErrArg},
		{[]int{1, 2, 3, 4, 5, 6, 7}, j, 0, api.ErrClash}, {[]int{1, 2, 3, 4, 5, 6, 7, 8}, j, 0, api.ErrLimit}, {make([]int, 7), j, 0, api.ErrArg}, {make([]int, 8), j, 0, api.ErrLimit},
		{[]int{1, 2}, api.Joins{Fits: slices.Repeat(j.Fits[:1], 127)}, 1, api.OK}, {[]int{1, 2}, api.Joins{Fits: slices.Repeat(j.Fits[:1], 128)}, 0, api.ErrLimit},
		{nil, api.Joins{Fits: make([]api.Fit, 128)}, 0, api.ErrLimit}, {[]int{2, 1}, api.Joins{Fits: make([]api.Fit, 128)}, 0, api.ErrLimit},
		// Misfits do not count.
		{[]int{1, 2}, api.Joins{Fits: j.Fits, Misfits: make([]api.Misfit, 128)}, 1, api.OK}, {[]int{1, 2}, api.Joins{Fits: j.Fits, Misfits: []api.Misfit{{IDs: []int{1, 2}}}}, 1, api.OK},
	} {
		if n, e := join.Least(x.ids, x.j); n != x.want || e != x.e {
			t.Error(x.ids, n, e, "instead of", x.want, x.e)
		}
	}
	// Sets that go together best do not go together greedily.
	j = api.Joins{Fits: []api.Fit{{IDs: []int{2, 3, 4, 5}}, {IDs: []int{1, 2, 3}}, {IDs: []int{4, 5, 6}}}}
	if n, e := join.Least([]int{1, 2, 3, 4, 5, 6}, j); n != 2 || e != api.OK {
		t.Error(n, e)
	}
}

// anyTable returns fits of some of the numbers from 1 to 7, not all of which are in order.
func anyTable(r *rand.Rand) api.Joins {
	var out api.Joins
	for range r.IntN(8) {
		var f api.Fit
		for range r.IntN(6) {
			f.IDs = append(f.IDs, 1+r.IntN(7))
		}
		out.Fits = append(out.Fits, f)
	}
	return out
}

func TestP7_5Least(t *testing.T) {
	r := random(21)
	var sizes [8]int
	clashes := 0
	for range 400 {
		j := anyTable(r)
		var ids []int
		for id := 1; id <= 7; id++ {
			if r.IntN(3) > 0 {
				ids = append(ids, id)
			}
		}
		best := plainBy(ids, j)
		n, e := join.Least(ids, j)
		if len(best) == 0 {
			clashes++
			if n != 0 || e != api.ErrClash {
				t.Fatal(ids, j, n, e)
			}
			continue
		}
		sizes[n]++
		if n != len(best[0]) || e != api.OK {
			t.Fatal(ids, j, n, e, "instead of", best)
		}
	}
	counted(t, "IDs that are in no fit", clashes, 50)
	for n := 1; n <= 3; n++ {
		counted(t, "IDs with some sets", sizes[n], 15)
	}
}
