package crew_test

import (
	"math"
	"math/rand/v2"
	"slices"
	"testing"

	"firetower/api"
	"firetower/crew"
)

// sends returns pairs; n is a row and a column for each of them.
func sends(n ...int) []api.Send {
	var out []api.Send
	for i := 0; i < len(n); i += 2 {
		out = append(out, api.Send{Crew: n[i], Blaze: n[i+1]})
	}
	return out
}

// alike returns a table all of whose numbers are the same.
func alike(rows, columns, n int) [][]int {
	var out [][]int
	for range rows {
		out = append(out, slices.Repeat([]int{n}, columns))
	}
	return out
}

const most = 1 << 24 // the greatest number of a table

// someTables returns tables with their best sends, and the forced ones.
func someTables() []struct {
	times        [][]int
	best, forced []api.Send
} {
	return []struct {
		times        [][]int
		best, forced []api.Send
	}{
		{[][]int{{5, 9}, {4, -1}}, sends(0, 1, 1, 0), sends(0, 1, 1, 0)},
		{[][]int{{3, 3}}, sends(0, 0), nil},
		{[][]int{{3}, {3}}, sends(0, 0), nil},
		{[][]int{{4}, {3}}, sends(1, 0), sends(1, 0)},
		{[][]int{{4, 3}}, sends(0, 1), sends(0, 1)},
		{[][]int{{0}}, sends(0, 0), sends(0, 0)},
		{[][]int{{-1}}, nil, nil},
		{nil, nil, nil},
		{[][]int{}, nil, nil},
		{[][]int{nil, {}}, nil, nil},
		{alike(2, 3, -1), nil, nil},
		{[][]int{{0, most}, {0, -1}}, sends(0, 1, 1, 0), sends(0, 1, 1, 0)},
		{[][]int{{0, most}, {most, -1}}, sends(0, 1, 1, 0), sends(0, 1, 1, 0)},
		{[][]int{{1, 2}, {2, 3}}, sends(0, 0, 1, 1), nil},
		{[][]int{{1, 2}, {2, 4}}, sends(0, 1, 1, 0), sends(0, 1, 1, 0)},
		{[][]int{{-1, 1}, {-1, 1}, {5, 1}}, sends(0, 1, 2, 0), sends(2, 0)},
		{[][]int{{7, 7, -1}, {7, 7, -1}, {-1, 7, 7}}, sends(0, 0, 1, 1, 2, 2), sends(2, 2)},
		{[][]int{{9, 2, 2}}, sends(0, 1), nil},
		{alike(6, 8, most), sends(0, 0, 1, 1, 2, 2, 3, 3, 4, 4, 5, 5), nil},
		{alike(6, 1, 3), sends(0, 0), nil},
		{[][]int{{0, most, -1, -1, -1, -1}, {-1, 0, most, -1, -1, -1}, {-1, -1, 0, most, -1, -1}, {-1, -1, -1, 0, most, -1}, {-1, -1, -1, -1, 0, most}, {0, -1, -1, -1, -1, -1}}, sends(0, 1, 1, 2, 2, 3, 3, 4, 4, 5, 5, 0), sends(0, 1, 1, 2, 2, 3, 3, 4, 4, 5, 5, 0)},
	}
}

func TestP9_7Best(t *testing.T) {
	for _, x := range someTables() {
		p, e := crew.Best(x.times)
		if e != api.OK || !slices.Equal(p.Sends, x.best) || p.Sum != plainSum(x.times, x.best) || !plainProved(x.times, p) {
			t.Error(x.times, p, e)
		}
		mustBe(t, crew.CheckPlan(x.times, p), api.OK, x.times, p)
	}
}

func TestP9_8Forced(t *testing.T) {
	for _, x := range someTables() {
		if got, e := crew.Forced(x.times); e != api.OK || !slices.Equal(got, x.forced) {
			t.Error(x.times, got, e)
		}
	}
}

// wrongTables returns tables that are not valid, with their errors.
func wrongTables() []struct {
	times [][]int
	e     api.Errno
} {
	return []struct {
		times [][]int
		e     api.Errno
	}{
		{make([][]int, 7), api.ErrLimit},
		{alike(7, 1, 0), api.ErrLimit},
		{alike(7, 1, -5), api.ErrLimit},
		{alike(1, 9, 0), api.ErrLimit},
		{alike(1, 9, -5), api.ErrLimit},
		{[][]int{{-2}, make([]int, 9)}, api.ErrLimit},
		{[][]int{{1}, {}, make([]int, 9)}, api.ErrLimit},
		{[][]int{{1}, {}}, api.ErrArg},
		{[][]int{{}, {1}}, api.ErrArg},
		{[][]int{nil, {1}}, api.ErrArg},
		{[][]int{{1, 2}, {1, 2}, {1}}, api.ErrArg},
		{[][]int{{1, 2}, {1, 2, 3}}, api.ErrArg},
		{[][]int{{-2}}, api.ErrArg},
		{[][]int{{1, 2}, {3, -2}}, api.ErrArg},
		{[][]int{{most + 1}}, api.ErrArg},
		{[][]int{{1, 2}, {most + 1, 2}}, api.ErrArg},
		{[][]int{{math.MaxInt}}, api.ErrArg},
		{[][]int{{math.MinInt}}, api.ErrArg},
	}
}

func TestP9_7WrongTables(t *testing.T) {
	for _, x := range wrongTables() {
		p, e := crew.Best(x.times)
		if e != x.e || len(p.Sends)+len(p.Crews)+len(p.Blazes) != 0 || p.Sum != 0 {
			t.Error(x.times, p, e)
		}
		mustBe(t, crew.CheckPlan(x.times, api.Plan{}), x.e, "CheckPlan", x.times)
		mustBe(t, crew.CheckPlan(x.times, api.Plan{Sum: 1, Sends: sends(0, 0)}), x.e, "CheckPlan", x.times)
	}
}

func TestP9_8WrongTables(t *testing.T) {
	for _, x := range wrongTables() {
		if got, e := crew.Forced(x.times); e != x.e || len(got) > 0 {
			t.Error(x.times, got, e)
		}
	}
}

func TestP9_7BestAtRandom(t *testing.T) {
	r := random(10)
	several := 0
	for range 4000 {
		times := randomTable(r, r.IntN(5), r.IntN(5))
		all := plainBest(times)
		p, e := crew.Best(times)
		if e != api.OK || !slices.Equal(p.Sends, all[0]) || p.Sum != plainSum(times, all[0]) || !plainProved(times, p) || crew.CheckPlan(times, p) != api.OK {
			t.Fatal(times, p, e, "instead of", all[0])
		}
		if len(all) > 1 {
			several++
		}
	}
	counted(t, "tables with several best sends", several, 300)
}

func TestP9_7BestOfLargeTables(t *testing.T) {
	r := random(11)
	for range 12 {
		for _, size := range [][2]int{{6, 8}, {6, 3}, {3, 8}, {6, 6}} {
			times := randomTable(r, size[0], size[1])
			all := plainBest(times)
			p, e := crew.Best(times)
			if e != api.OK || !slices.Equal(p.Sends, all[0]) || p.Sum != plainSum(times, all[0]) || !plainProved(times, p) {
				t.Fatal(times, p, e, "instead of", all[0])
			}
			if got, e := crew.Forced(times); e != api.OK || !slices.Equal(got, plainForced(all)) {
				t.Fatal(times, got, e)
			}
		}
	}
	for range 2000 {
		times := randomTable(r, 1+r.IntN(6), 1+r.IntN(8))
		p, e := crew.Best(times)
		if e != api.OK || !plainProved(times, p) || crew.CheckPlan(times, p) != api.OK {
			t.Fatal(times, p, e)
		}
	}
}

func TestP9_8ForcedAtRandom(t *testing.T) {
	r := random(12)
	some := 0
	for range 4000 {
		times := randomTable(r, r.IntN(5), r.IntN(5))
		want := plainForced(plainBest(times))
		if got, e := crew.Forced(times); e != api.OK || !slices.Equal(got, want) {
			t.Fatal(times, got, e, "instead of", want)
		}
		if p, _ := crew.Best(times); len(want) > 0 && len(want) < len(p.Sends) {
			some++
		}
	}
	counted(t, "tables where some pairs are forced", some, 200)
}

const worth = 1 << 28 // what a pair is worth, but for its minutes

func TestP9_7CheckPlan(t *testing.T) {
	two := [][]int{{5, 9}, {4, -1}}
	plan := func(l []api.Send, sum int, crews, blazes []int) api.Plan {
		return api.Plan{Sends: l, Sum: sum, Crews: crews, Blazes: blazes}
	}
	for _, x := range []struct {
		times [][]int
		p     api.Plan
		e     api.Errno
	}{
		{two, plan(sends(0, 1, 1, 0), 13, []int{worth - 9, worth - 8}, []int{4, 0}), api.OK},
		{two, plan(sends(0, 1, 1, 0), 13, []int{worth - 9, worth - 4}, []int{0, 0}), api.ErrProof},
		{two, plan(sends(0, 1, 1, 0), 13, []int{worth - 9, worth - 8}, []int{5, 0}), api.ErrProof},
		{two, plan(sends(0, 1, 1, 0), 13, []int{worth - 9, worth - 9}, []int{5, 0}), api.OK},
		{two, plan(sends(0, 1, 1, 0), 13, []int{0, 0}, []int{worth - 4, worth - 9}), api.OK},
		{two, plan(sends(0, 1, 1, 0), 13, []int{0, 1}, []int{worth - 5, worth - 9}), api.OK},
		{two, plan(sends(0, 1, 1, 0), 13, []int{0, -1}, []int{worth - 3, worth - 9}), api.ErrProof},
		{two, plan(sends(0, 1, 1, 0), 12, []int{worth - 9, worth - 8}, []int{4, 0}), api.ErrProof},
		{two, plan(sends(0, 1, 1, 0), 12, []int{worth - 9, worth - 8}, []int{5, 0}), api.ErrProof},
		{two, plan(sends(1, 0, 0, 1), 13, []int{worth - 9, worth - 8}, []int{4, 0}), api.ErrProof},
		{two, plan(sends(0, 0), 5, []int{worth - 9, worth - 8}, []int{4, 0}), api.ErrProof},
		{two, plan(sends(1, 0), 4, []int{worth - 9, worth - 8}, []int{4, 0}), api.ErrProof},
		{two, plan(sends(0, 0, 1, 1), 4, []int{worth - 9, worth - 8}, []int{4, 0}), api.ErrProof},
		{two, plan(sends(0, 0, 1, 0), 9, []int{worth - 5, worth - 4}, []int{0, 0}), api.ErrProof},
		{two, plan(sends(0, 0, 0, 1), 14, []int{worth - 5, worth - 9}, []int{0, 0}), api.ErrProof},
		{two, plan(nil, 0, []int{0, 0}, []int{0, 0}), api.ErrProof},
		{two, api.Plan{}, api.ErrProof},
		{two, plan(sends(0, 1, 1, 0), 13, []int{worth - 9, worth - 8, 0}, []int{4, 0}), api.ErrProof},
		{two, plan(sends(0, 1, 1, 0), 13, []int{worth - 9, worth - 8}, []int{4, 0, 0}), api.ErrProof},
		{two, plan(sends(0, 1, 1, 0), 13, []int{worth - 9}, []int{worth - 4, 0}), api.ErrProof},
		{two, plan(sends(0, 1, 1, 0), 13, []int{worth - 9, worth - 4}, []int{0}), api.ErrProof},
		{two, plan(sends(0, 1, 1, 0), 13, nil, nil), api.ErrProof},
	} {
		mustBe(t, crew.CheckPlan(x.times, x.p), x.e, x)
		if plainProved(x.times, x.p) != (x.e == api.OK) {
			t.Error("the plain version errs:", x)
		}
	}
}

func TestP9_7CheckPlanEdges(t *testing.T) {
	one := func(l []api.Send, sum, crew, blaze int) api.Plan {
		return api.Plan{Sends: l, Sum: sum, Crews: []int{crew}, Blazes: []int{blaze}}
	}
	for _, x := range []struct {
		n int
		p api.Plan
		e api.Errno
	}{
		{0, one(sends(0, 0), 0, worth, 0), api.OK},
		{0, one(sends(0, 0), 0, 0, worth), api.OK},
		{0, one(sends(0, 0), 0, worth-7, 7), api.OK},
		{0, one(sends(0, 0), 0, worth+1, -1), api.ErrProof},
		{0, one(sends(0, 0), 0, -1, worth+1), api.ErrProof},
		{0, one(sends(0, 0), 0, worth, 1), api.ErrProof},
		{0, one(sends(0, 0), 0, worth-1, 0), api.ErrProof},
		{0, one(sends(0, 0), 1, worth-1, 0), api.ErrProof},
		{0, one(sends(0, 0), -1, worth, 1), api.ErrProof},
		{0, one(sends(0, 0), 0, math.MaxInt, math.MinInt+1+worth), api.ErrProof},
		{0, one(nil, 0, 0, 0), api.ErrProof},
		{0, one(sends(0, 0, 0, 0), 0, worth, worth), api.ErrProof},
		{0, one(sends(1, 0), 0, worth, 0), api.ErrProof},
		{0, one(sends(0, 1), 0, worth, 0), api.ErrProof},
		{0, one(sends(-1, 0), 0, worth, 0), api.ErrProof},
		{0, one(sends(0, -1), 0, worth, 0), api.ErrProof},
		{0, one(sends(math.MaxInt, math.MinInt), 0, worth, 0), api.ErrProof},
		{most, one(sends(0, 0), most, worth-most, 0), api.OK},
		{most, one(sends(0, 0), most, worth-most-1, 0), api.ErrProof},
		{-1, one(nil, 0, 0, 0), api.OK},
		{-1, one(nil, 0, 1, 0), api.ErrProof},
		{-1, one(nil, -1, 1, 0), api.ErrProof},
		{-1, one(nil, 0, 1, -1), api.ErrProof},
		{-1, one(sends(0, 0), -1, worth, 1), api.ErrProof},
		{-1, one(sends(0, 0), 0, worth, 0), api.ErrProof},
	} {
		mustBe(t, crew.CheckPlan([][]int{{x.n}}, x.p), x.e, x)
	}
	for _, x := range []struct {
		times [][]int
		p     api.Plan
	}{
		{[][]int{{5, 9}}, api.Plan{Sends: sends(0, 0, 0, 1), Sum: 14, Crews: []int{0}, Blazes: []int{worth - 5, worth - 9}}},
		{[][]int{{5}, {9}}, api.Plan{Sends: sends(0, 0, 1, 0), Sum: 14, Crews: []int{worth - 5, worth - 9}, Blazes: []int{0}}},
		{[][]int{{5}, {9}}, api.Plan{Sends: sends(0, 0, 0, 0), Sum: 10, Crews: []int{worth - 5, worth - 9}, Blazes: []int{4}}},
		{[][]int{{5, -1}, {-1, 9}}, api.Plan{Sends: sends(1, 1, 0, 0), Sum: 14, Crews: []int{worth - 5, worth - 9}, Blazes: []int{0, 0}}},
		{[][]int{{5, -1}, {-1, 9}}, api.Plan{Sends: sends(0, 0, 1, 0), Sum: 4, Crews: []int{worth - 5, worth - 9}, Blazes: []int{0, 10}}},
	} {
		mustBe(t, crew.CheckPlan(x.times, x.p), api.ErrProof, "the pairs alone are wrong", x)
	}
	mustBe(t, crew.CheckPlan(nil, api.Plan{}), api.OK, "no rows")
	mustBe(t, crew.CheckPlan(nil, api.Plan{Blazes: []int{0}}), api.ErrProof, "a column without rows")
	mustBe(t, crew.CheckPlan(nil, api.Plan{Crews: []int{0}}), api.ErrProof, "a row that is none")
	mustBe(t, crew.CheckPlan(nil, api.Plan{Sends: sends(0, 0)}), api.ErrProof, "a pair without rows")
	mustBe(t, crew.CheckPlan(nil, api.Plan{Sum: 1}), api.ErrProof, "a sum without rows")
	mustBe(t, crew.CheckPlan([][]int{{}, {}}, api.Plan{Crews: []int{0, 0}}), api.OK, "no columns")
	mustBe(t, crew.CheckPlan([][]int{{}, {}}, api.Plan{Crews: []int{0}}), api.ErrProof, "a number too few")
	mustBe(t, crew.CheckPlan([][]int{{}, {}}, api.Plan{Crews: []int{0, 0}, Sends: sends(0, 0)}), api.ErrProof, "a pair without columns")
}

// randomPlan returns a plan that is mostly nearly right.
func randomPlan(r *rand.Rand, times [][]int, p api.Plan) api.Plan {
	out := api.Plan{Sends: slices.Clone(p.Sends), Sum: p.Sum, Crews: slices.Clone(p.Crews), Blazes: slices.Clone(p.Blazes)}
	all := allSends(times, 0, map[int]bool{})
	switch n := 1 - 2*r.IntN(2); r.IntN(8) {
	case 0:
		out.Sends = oneOf(r, all)
		out.Sum = plainSum(times, out.Sends)
	case 1:
		out.Sum += n
	case 2:
		shift(out.Crews, n)
		shift(out.Blazes, -n)
	case 3:
		if len(times) > 0 {
			out.Crews[r.IntN(len(times))] += n
		}
	case 4:
		if len(out.Blazes) > 0 {
			out.Blazes[r.IntN(len(out.Blazes))] += n
		}
	case 5:
		if len(out.Crews) > 0 && len(out.Blazes) > 0 {
			out.Crews[r.IntN(len(out.Crews))] += n
			out.Blazes[r.IntN(len(out.Blazes))] -= n
		}
	case 6:
		if len(out.Sends) > 0 {
			out.Sends = less(out.Sends, r.IntN(len(out.Sends)))
			out.Sum = plainSum(times, out.Sends)
		}
	case 7:
		best := plainBest(times)
		out.Sends = best[len(best)-1]
	}
	return out
}

// shift adds a number to all of some numbers that are not 0.
func shift(l []int, n int) {
	for i := range l {
		if l[i] > 0 {
			l[i] += n
		}
	}
}

func TestP9_7CheckPlanAtRandom(t *testing.T) {
	r := random(13)
	right, wrong := 0, 0
	for range 10000 {
		times := randomTable(r, r.IntN(4), r.IntN(5))
		best, _ := crew.Best(times)
		p := randomPlan(r, times, best)
		want := api.ErrProof
		if plainProved(times, p) {
			want = api.OK
			right++
		} else {
			wrong++
		}
		if e := crew.CheckPlan(times, p); e != want {
			t.Fatal(times, p, e, "instead of", want)
		}
	}
	counted(t, "plans that are proved", right, 800)
	counted(t, "plans that are not", wrong, 800)
}
