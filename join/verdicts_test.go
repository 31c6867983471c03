package join_test

import (
	"math/rand/v2"
	"reflect"
	"slices"
	"testing"

	"firetower/api"
	"firetower/join"
)

// crossing returns the example with a further sighting by the tower 1, 5, that fits to the sighting 2, but not to 1: 2 can be of one smoke with each of both.
func crossing() api.Day {
	d := example()
	d.Reports[2] = api.Report{ID: 5, Kind: api.ReSight, Tower: 1, Circle: 1, Tick: 105, From: 630, Slack: 10}
	return d
}

func TestP7_6SameOfExamples(t *testing.T) {
	all := parted([]int{1}, []int{2}, []int{3})
	two := parted([]int{1, 2}, []int{3})
	for _, x := range []struct {
		d    api.Day
		a, b int
		want api.Verdict
	}{
		{example(), 1, 2, api.Verdict{Answer: api.Yes, Together: two}},
		{example(), 2, 1, api.Verdict{Answer: api.Yes, Together: two}},
		{example(), 1, 3, api.Verdict{Answer: api.No, Apart: two}},
		{example(), 3, 2, api.Verdict{Answer: api.No, Apart: two}},
		{more(example(), blank()), 1, 2, api.Verdict{Answer: api.No, Apart: all}},
		{crossing(), 1, 2, api.Verdict{Answer: api.Open, Together: parted([]int{1, 2}, []int{5}), Apart: parted([]int{1}, []int{2, 5})}},
		{crossing(), 5, 2, api.Verdict{Answer: api.Open, Together: parted([]int{1}, []int{2, 5}), Apart: parted([]int{1, 2}, []int{5})}},
		{crossing(), 1, 5, api.Verdict{Answer: api.No, Apart: parted([]int{1, 2}, []int{5})}},
		{triangle(), 1, 2, api.Verdict{Answer: api.Open, Together: parted([]int{1, 2}, []int{3}), Apart: parted([]int{1, 3}, []int{2})}},
		{triangle(), 3, 1, api.Verdict{Answer: api.Open, Together: parted([]int{1, 3}, []int{2}), Apart: parted([]int{1, 2}, []int{3})}},
		{triangle(), 2, 3, api.Verdict{Answer: api.Open, Together: parted([]int{1}, []int{2, 3}), Apart: parted([]int{1, 2}, []int{3})}},
	} {
		if v, e := join.Same(x.d, x.a, x.b); !sameVerdicts(v, x.want) || e != api.OK {
			t.Error(x.a, x.b, v, e, "instead of", x.want)
		}
	}
}

func TestP7_6Same(t *testing.T) {
	r := random(30)
	var answers [4]int
	clashes := 0
	for range 300 {
		d := randomDay(r, 10, 7)
		x := plainly(d)
		for _, pair := range pairsOf(x.ids) {
			a, b := pair[0], pair[1]
			v, e := join.Same(d, a, b)
			if len(x.best) == 0 {
				clashes++
				if !zeroVerdict(v) || e != api.ErrClash {
					t.Fatal(d, a, b, v, e)
				}
				continue
			}
			if want := plainSame(x.best, a, b); !sameVerdicts(v, want) || e != api.OK {
				t.Fatal(d, a, b, v, e, "instead of", want)
			}
			answers[v.Answer]++
		}
	}
	counted(t, "pairs of days without partitions", clashes, 100)
	for n := api.No; n <= api.Open; n++ {
		counted(t, "verdicts", answers[n], 200)
	}
}

func TestP7_7CheckSameOfExamples(t *testing.T) {
	d := crossing()
	j, _ := join.Table(d)
	one, two, all := parted([]int{1, 2}, []int{5}), parted([]int{1}, []int{2, 5}), parted([]int{1}, []int{2}, []int{5})
	for _, x := range []struct {
		a, b int
		v    api.Verdict
		e    api.Errno
	}{
		{1, 2, api.Verdict{Answer: api.Open, Together: one, Apart: two}, api.OK},
		{2, 1, api.Verdict{Answer: api.Open, Together: one, Apart: two}, api.OK},
		{1, 2, api.Verdict{Answer: api.Open, Together: two, Apart: one}, api.ErrProof},
		{1, 2, api.Verdict{Answer: api.Open, Together: one, Apart: one}, api.ErrProof},
		{1, 2, api.Verdict{Answer: api.Open, Together: one, Apart: all}, api.ErrProof},
		{1, 2, api.Verdict{Answer: api.Open, Together: one}, api.ErrProof},
		{1, 2, api.Verdict{Answer: api.Open, Apart: two}, api.ErrProof},
		{1, 2, api.Verdict{Answer: api.Yes, Together: one}, api.ErrProof},
		{1, 2, api.Verdict{Answer: api.No, Apart: two}, api.ErrProof},
		{1, 2, api.Verdict{Together: one, Apart: two}, api.ErrProof},
		{1, 2, api.Verdict{Answer: 4, Together: one, Apart: two}, api.ErrProof},
		{1, 2, api.Verdict{Answer: -1, Together: one, Apart: two}, api.ErrProof},
		{1, 2, api.Verdict{}, api.ErrProof},
		{1, 2, api.Verdict{Answer: api.Open, Together: parted([]int{5}, []int{1, 2}), Apart: two}, api.ErrProof},
		{1, 2, api.Verdict{Answer: api.Open, Together: parted([]int{1, 2}, []int{5}, nil), Apart: two}, api.ErrProof},
		{1, 2, api.Verdict{Answer: api.Open, Together: parted([]int{2, 1}, []int{5}), Apart: two}, api.ErrProof},
		{1, 2, api.Verdict{Answer: api.Open, Together: parted([]int{1, 2, 5}), Apart: two}, api.ErrProof},
		{1, 2, api.Verdict{Answer: api.Open, Together: parted([]int{1, 2}, []int{9}), Apart: two}, api.ErrProof},
		{1, 2, api.Verdict{Answer: api.Open, Together: one, Apart: parted([]int{1})}, api.ErrProof},
		// Any best partition shows that two are apart, not just the first one.
		{1, 5, api.Verdict{Answer: api.No, Apart: one}, api.OK},
		{1, 5, api.Verdict{Answer: api.No, Apart: two, Together: [][]int{}}, api.OK},
		{1, 5, api.Verdict{Answer: api.No, Apart: all}, api.ErrProof},
		{1, 5, api.Verdict{Answer: api.No, Apart: one, Together: two}, api.ErrProof},
		{1, 5, api.Verdict{Answer: api.No, Apart: one, Together: parted(nil)}, api.ErrProof},
		{1, 5, api.Verdict{Answer: api.No}, api.ErrProof},
	} {
		mustBe(t, join.CheckSame(d, j, x.a, x.b, x.v), x.e, x)
	}
	d = example()
	j, _ = join.Table(d)
	two = parted([]int{1, 2}, []int{3})
	mustBe(t, join.CheckSame(d, j, 1, 2, api.Verdict{Answer: api.Yes, Together: two, Apart: [][]int{}}), api.OK, "yes")
	mustBe(t, join.CheckSame(d, j, 1, 2, api.Verdict{Answer: api.Yes, Together: two, Apart: two}), api.ErrProof, "yes, and apart")
	mustBe(t, join.CheckSame(d, j, 1, 2, api.Verdict{Answer: api.Yes}), api.ErrProof, "yes without proof")
	mustBe(t, join.CheckSame(d, j, 1, 2, api.Verdict{Answer: api.Yes, Together: parted([]int{1}, []int{2}, []int{3})}), api.ErrProof, "yes, but apart")
}

// CheckSame looks at the table alone: whether that is proved it does not ask.
func TestP7_7TableAlone(t *testing.T) {
	d := more(example(), blank())
	one := api.Verdict{Answer: api.Yes, Together: parted([]int{1, 2, 3})}
	for _, j := range []api.Joins{
		{Fits: []api.Fit{{IDs: []int{1, 2, 3}}}}, {Fits: []api.Fit{{IDs: []int{3, 9, 2, 1, 1}, At: at(-1, 99)}}}, {Fits: []api.Fit{{IDs: []int{1, 2}}, {}, {IDs: []int{1, 2, 3}}}, Misfits: make([]api.Misfit, 200)},
		{Fits: slices.Repeat([]api.Fit{{IDs: []int{1, 2, 3}}}, 127)},
	} {
		mustBe(t, join.CheckSame(d, j, 1, 2, one), api.OK, j)
	}
	none, _ := join.Table(d)
	mustBe(t, join.CheckSame(d, none, 1, 2, one), api.ErrProof, "the day's own table")
}

func TestP7_7Errors(t *testing.T) {
	d := more(example(), blank())
	j, _ := join.Table(d)
	v, _ := join.Same(d, 1, 2)
	large := api.Joins{Fits: slices.Repeat(j.Fits[:1], 128)}
	for _, x := range []struct {
		a, b int
		j    api.Joins
		v    api.Verdict
		e    api.Errno
	}{
		{1, 2, j, v, api.OK}, {1, 9, j, v, api.ErrNone}, {4, 2, j, v, api.ErrNone}, {4, 4, j, v, api.ErrNone}, {1, 1, j, v, api.ErrArg},
		{1, 9, large, v, api.ErrNone}, {1, 1, large, v, api.ErrArg}, {1, 2, large, v, api.ErrLimit}, {1, 2, api.Joins{Fits: make([]api.Fit, 128)}, api.Verdict{}, api.ErrLimit},
		{1, 2, api.Joins{}, v, api.ErrClash}, {1, 2, api.Joins{Fits: large.Fits[:127]}, v, api.ErrClash}, {1, 2, api.Joins{Fits: j.Fits[:2]}, api.Verdict{}, api.ErrClash},
		{1, 2, j, api.Verdict{}, api.ErrProof}, {1, 9, api.Joins{}, api.Verdict{}, api.ErrNone}, {3, 3, api.Joins{}, api.Verdict{}, api.ErrArg},
	} {
		mustBe(t, join.CheckSame(d, x.j, x.a, x.b, x.v), x.e, x.a, x.b)
	}
}

// anyVerdict returns a verdict with partitions of a day, best ones or others.
func anyVerdict(r *rand.Rand, ids []int, best [][][]int) api.Verdict {
	any := func() [][]int {
		switch r.IntN(8) {
		case 0:
			return nil
		case 1:
			all := plainPartitions(ids, func([]int) bool { return true })
			return all[r.IntN(len(all))]
		default:
			return best[r.IntN(len(best))]
		}
	}
	return api.Verdict{Answer: api.Answer(r.IntN(5)), Together: any(), Apart: any()}
}

func TestP7_7CheckSame(t *testing.T) {
	r := random(31)
	var right, wrong, clashes int
	for range 400 {
		d := full(2+r.IntN(4), r.IntN(2))
		for i := range d.Reports {
			d.Reports[i].ID = i + 1
		}
		j := anyTable(r)
		a, b, _ := pairOf(r, d)
		ids := plainSightings(d)
		best := plainBy(ids, j)
		if len(best) == 0 {
			clashes++
			mustBe(t, join.CheckSame(d, j, a, b, api.Verdict{}), api.ErrClash, d, j)
			continue
		}
		for range 20 {
			v := anyVerdict(r, ids, best)
			if r.IntN(2) == 0 {
				v.Answer = plainSame(best, a, b).Answer
			}
			if v.Answer == api.Yes && r.IntN(2) == 0 {
				v.Apart = nil
			}
			if v.Answer == api.No && r.IntN(2) == 0 {
				v.Together = nil
			}
			want := api.ErrProof
			if plainShows(best, a, b, v) {
				want = api.OK
				right++
			} else {
				wrong++
			}
			mustBe(t, join.CheckSame(d, j, a, b, v), want, ids, j, a, b, v)
		}
	}
	counted(t, "tables without partitions", clashes, 50)
	counted(t, "proved verdicts", right, 200)
	counted(t, "other verdicts", wrong, 500)
}

func TestP7_8GroupsOfExamples(t *testing.T) {
	two, all := parted([]int{1, 2}, []int{3}), parted([]int{1}, []int{2}, []int{3})
	none := example()
	none.Reports = nil
	for _, x := range []struct {
		d              api.Day
		proved, groups [][]int
	}{
		{example(), two, two}, {more(example(), blank()), all, all}, {crossing(), nil, parted([]int{1}, []int{2}, []int{5})}, {triangle(), nil, all}, {none, nil, nil}, {more(none, blank()), nil, nil},
	} {
		if l, e := join.Proved(x.d); !sameSets(l, x.proved) || e != api.OK {
			t.Error(l, e, "instead of", x.proved)
		}
		if l, e := join.Groups(x.d); !sameSets(l, x.groups) || e != api.OK {
			t.Error(l, e, "instead of", x.groups)
		}
	}
	// What is seen elsewhere is proved, though the other sightings are not.
	d := crossing()
	far := example().Reports[2]
	far.Tick = 700
	d = more(d, far)
	if l, e := join.Proved(d); !sameSets(l, parted([]int{3})) || e != api.OK {
		t.Error(l, e)
	}
	if l, e := join.Groups(d); !sameSets(l, parted([]int{1}, []int{2}, []int{3}, []int{5})) || e != api.OK {
		t.Error(l, e)
	}
}

func TestP7_8StandsOfExamples(t *testing.T) {
	if l, e := join.Stands(example(), 2); !slices.Equal(l, []api.Place{at(4, 4)}) || e != api.OK {
		t.Error(l, e)
	}
	if l, e := join.Stands(example(), 3); len(l) != 8 || l[0] != at(1, 1) || e != api.OK {
		t.Error(l, e)
	}
	// The places go by Y, whatever the order of the partitions is.
	for id, want := range map[int][]api.Place{1: {at(1, 1), at(2, 2), at(3, 3), at(4, 4), at(5, 5), at(6, 6), at(7, 7), at(8, 8)}, 2: {at(4, 4), at(3, 5)}, 5: {at(3, 5)}} {
		if l, e := join.Stands(crossing(), id); !slices.Equal(l, want) || e != api.OK {
			t.Error(id, l, e, "instead of", want)
		}
	}
	for _, id := range []int{0, 4, 5, -1} {
		if l, e := join.Stands(more(example(), blank()), id); len(l) != 0 || e != api.ErrNone {
			t.Error(id, l, e)
		}
	}
}

// holds reports whether a set stands in a partition.
func holds(p [][]int, s []int) bool {
	return slices.ContainsFunc(p, func(o []int) bool { return slices.Equal(o, s) })
}

// plainProvedSets returns the sets that stand in all partitions of some.
func plainProvedSets(best [][][]int) [][]int {
	return slices.DeleteFunc(slices.Clone(best[0]), func(s []int) bool {
		return slices.ContainsFunc(best, func(p [][]int) bool { return !holds(p, s) })
	})
}

// plainGroups returns the groups of IDs, by the verdicts on each two.
func plainGroups(ids []int, best [][][]int) [][]int {
	var out [][]int
	for _, id := range ids {
		one := func(o int) bool {
			return !slices.ContainsFunc(best, func(p [][]int) bool { return !meets(p, id, o) })
		}
		g := slices.DeleteFunc(slices.Clone(ids), func(o int) bool { return !one(o) })
		if g[0] == id {
			out = append(out, g)
		}
	}
	return out
}

// plainStands returns where the smoke of a sighting can stand.
func (x plain) plainStands(id int) []api.Place {
	var out []api.Place
	m := x.d.Service.Country.Map
	for y := range m.High {
		for column := range m.Wide {
			in := func(p [][]int) bool {
				return slices.ContainsFunc(p, func(s []int) bool { return slices.Contains(s, id) && slices.Contains(x.cell(s), at(column, y)) })
			}
			if slices.ContainsFunc(x.best, in) {
				out = append(out, at(column, y))
			}
		}
	}
	return out
}

func TestP7_8Groups(t *testing.T) {
	r := random(32)
	var differ, wider, several int
	for range 500 {
		d := randomDay(r, 10, 7)
		x := plainly(d)
		if len(x.best) == 0 {
			continue
		}
		proved, groups := plainProvedSets(x.best), plainGroups(x.ids, x.best)
		if l, e := join.Proved(d); !sameSets(l, proved) || e != api.OK {
			t.Fatal(d, l, e, "instead of", proved)
		}
		if l, e := join.Groups(d); !sameSets(l, groups) || e != api.OK {
			t.Fatal(d, l, e, "instead of", groups)
		}
		if len(proved) > 0 && len(proved) != len(groups) {
			differ++
		}
		if slices.ContainsFunc(groups, func(g []int) bool { return len(g) > 1 && !holds(proved, g) }) {
			several++
		}
		for _, id := range x.ids {
			l, e := join.Stands(d, id)
			if want := x.plainStands(id); !slices.Equal(l, want) || e != api.OK {
				t.Fatal(d, id, l, e, "instead of", want)
			}
			if !slices.ContainsFunc(x.best, func(p [][]int) bool {
				return slices.ContainsFunc(p, func(s []int) bool { return slices.Contains(s, id) && len(x.cell(s)) == len(l) })
			}) {
				wider++
			}
		}
	}
	counted(t, "days with proved sets beside others", differ, 20)
	counted(t, "groups of several that are no proved sets", several, 10)
	counted(t, "cells that only several sets have", wider, 20)
}

func TestP7_9RestsOfExamples(t *testing.T) {
	for _, x := range []struct {
		d    api.Day
		a, b int
		want []int
	}{
		{more(example(), blank()), 1, 2, []int{4}}, {example(), 1, 2, nil}, {example(), 1, 3, nil}, {crossing(), 1, 2, []int{5}}, {crossing(), 2, 5, []int{1}}, {crossing(), 1, 5, nil},
		{triangle(), 1, 2, []int{3}}, {triangle(), 3, 1, []int{2}},
	} {
		if l, e := join.Rests(x.d, x.a, x.b); !slices.Equal(l, x.want) || e != api.OK {
			t.Error(x.a, x.b, l, e, "instead of", x.want)
		}
	}
	for _, x := range []struct {
		a, b int
		e    api.Errno
	}{{1, 9, api.ErrNone}, {4, 1, api.ErrNone}, {4, 4, api.ErrNone}, {1, 1, api.ErrArg}} {
		if l, e := join.Rests(more(example(), blank()), x.a, x.b); len(l) != 0 || e != x.e {
			t.Error(x, l, e)
		}
	}
}

func TestP7_9Rests(t *testing.T) {
	r := random(33)
	var sightings, blanks, several int
	for range 150 {
		d := randomDay(r, 9, 6)
		x := plainly(d)
		others := map[int][][][]int{}
		for _, o := range d.Reports {
			others[o.ID] = plainly(less(d, o.ID)).best
		}
		for _, pair := range pairsOf(x.ids) {
			a, b := pair[0], pair[1]
			l, e := join.Rests(d, a, b)
			if len(x.best) == 0 {
				if len(l) != 0 || e != api.ErrClash {
					t.Fatal(d, a, b, l, e)
				}
				continue
			}
			var want []int
			for _, o := range d.Reports {
				if o.ID == a || o.ID == b || plainSame(others[o.ID], a, b).Answer == plainSame(x.best, a, b).Answer {
					continue
				}
				want = append(want, o.ID)
				if o.Kind == api.ReBlank {
					blanks++
				} else {
					sightings++
				}
			}
			slices.Sort(want)
			if !slices.Equal(l, want) || e != api.OK {
				t.Fatal(d, a, b, l, e, "instead of", want)
			}
			if len(want) > 1 {
				several++
			}
		}
	}
	counted(t, "sightings on which a verdict rests", sightings, 50)
	counted(t, "blanks on which a verdict rests", blanks, 20)
	counted(t, "verdicts that rest on several reports", several, 20)
}

func TestP7_9WithOfExamples(t *testing.T) {
	d := example()
	got, e := join.With(d, blank())
	if !reflect.DeepEqual(got, more(d, blank())) || e != api.OK {
		t.Error(got, e)
	}
	wrong := func(do func(r *api.Report)) api.Report { r := blank(); do(&r); return r }
	for i, x := range []struct {
		d api.Day
		r api.Report
		e api.Errno
	}{
		{d, d.Reports[0], api.ErrTwice}, {d, wrong(func(r *api.Report) { r.ID = 3 }), api.ErrTwice}, {more(d, blank()), blank(), api.ErrTwice},
		{d, api.Report{}, api.ErrArg}, {d, wrong(func(r *api.Report) { r.Slack = 0 }), api.ErrArg}, {d, wrong(func(r *api.Report) { r.Tower = 3 }), api.ErrNone}, {d, wrong(func(r *api.Report) { r.ID, r.Tower = 1, 3 }), api.ErrNone},
		{full(7, 0), d.Reports[0], api.ErrLimit}, {full(0, 10), blank(), api.ErrLimit}, {full(6, 10), d.Reports[0], api.OK}, {full(7, 9), blank(), api.OK}, {full(7, 0), blank(), api.OK}, {full(0, 10), d.Reports[0], api.OK},
		{full(7, 10), api.Report{Kind: api.ReSight}, api.ErrLimit}, {full(7, 10), api.Report{}, api.ErrLimit}, {full(7, 0), full(1, 0).Reports[0], api.ErrLimit},
	} {
		got, e := join.With(x.d, x.r)
		mustBe(t, e, x.e, i)
		if e != api.OK && !zeroDay(got) || e == api.OK && !reflect.DeepEqual(got, more(x.d, x.r)) {
			t.Error(i, got)
		}
		mustBe(t, join.Check(more(x.d, x.r)), x.e, i)
	}
	// A wrong day stays wrong: its own error comes first.
	d = full(0, 10)
	d.Reports[3].Slack = 0
	if got, e := join.With(d, blank()); !zeroDay(got) || e != api.ErrArg {
		t.Error(got, e)
	}
}

func TestP7_9WithoutOfExamples(t *testing.T) {
	d := rich()
	keep := func(l ...int) api.Day {
		out := rich()
		out.Reports = nil
		for _, i := range l {
			out.Reports = append(out.Reports, d.Reports[i])
		}
		return out
	}
	for _, x := range []struct {
		ids  []int
		want api.Day
	}{
		{nil, keep(0, 1, 2, 3, 4)}, {[]int{}, keep(0, 1, 2, 3, 4)}, {[]int{77, 0, -1}, keep(0, 1, 2, 3, 4)}, {[]int{4}, keep(0, 1, 2, 4)}, {[]int{4, 77}, keep(0, 1, 2, 4)},
		{[]int{1 << 40, 1, 1, 1}, keep(1, 2, 3)}, {[]int{3, 2, 2}, keep(0, 3, 4)}, {[]int{2, 3}, keep(0, 3, 4)},
	} {
		if got, e := join.Without(d, x.ids); !reflect.DeepEqual(got, x.want) || e != api.OK {
			t.Error(x.ids, got, e)
		}
	}
	got, e := join.Without(d, []int{1 << 40, 4, 3, 2, 1})
	if len(got.Reports) != 0 || got.Rise != 10 || got.Long != 60 || !reflect.DeepEqual(got.Service, d.Service) || e != api.OK {
		t.Error(got, e)
	}
	mustBe(t, join.Check(got), api.OK, got)
}
