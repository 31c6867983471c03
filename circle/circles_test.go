package circle_test

import (
	"math"
	"slices"
	"testing"

	"firetower/api"
	"firetower/circle"
)

func TestP5_4CheckOfRightOnes(t *testing.T) {
	r := random(10)
	least := api.Circle{ID: 1, Zero: span(-300, -300)}
	most := api.Circle{ID: 1 << 40, At: at(48, 48), From: 1 << 20, To: 1 << 20, Zero: span(300, 300), Drift: 60}
	first := api.Check{ID: 1, Circle: 1, Mark: at(48, 48), Slack: 1}
	last := api.Check{ID: 1 << 40, Circle: 1 << 40, Tick: 1 << 20, Shown: 3599, Slack: 100}
	l := []api.Circles{
		{}, example(), three(), {Circles: []api.Circle{}, Checks: []api.Check{}},
		{Circles: manyCircles(12)}, {Circles: example().Circles, Checks: manyChecks(60)},
		{Circles: append(manyCircles(12)[1:], example().Circles...), Checks: manyChecks(60)},
		{Circles: []api.Circle{least, most}}, {Circles: []api.Circle{most, least}, Checks: []api.Check{first, last}},
	}
	for range 300 {
		c, _ := randomCircles(r, kind{circles: 12, checks: 60, long: 1000, wild: 2})
		l = append(l, c)
	}
	for _, c := range l {
		if e := circle.Check(c); e != api.OK {
			t.Error(c, e)
		}
	}
}

func TestP5_4CheckOfWrongOnes(t *testing.T) {
	for _, x := range wrongOnes() {
		if e := circle.Check(x.c); e != x.e {
			t.Error(x.name, e, "instead of", x.e)
		}
	}
}

// asked is what functions are asked of circles.
type asked struct {
	check, circle, tick int
	ticks               api.Span
	ids                 []int
	zeros               api.Zeros
	r                   api.Reading
}

// right returns what can be asked of the three circles.
func right() asked {
	return asked{
		check: 7, circle: 1, tick: 130, ticks: span(100, 140), ids: []int{7, 20},
		zeros: api.Zeros{Circle: 1, Tick: 100, Zero: []int{4, 4, 4}}, r: api.Reading{Circle: 1, Tick: 130, Shown: 900, Slack: 1},
	}
}

// wrong returns what can be asked of no circles.
func wrong() asked {
	return asked{
		check: -1, circle: -1, tick: -1, ticks: span(5, 4), ids: []int{0, math.MinInt},
		zeros: api.Zeros{Circle: -1}, r: api.Reading{Circle: -1, Tick: -1, Shown: -1},
	}
}

// answer is the error of a function, and whether all its other results are zero.
type answer struct {
	e    api.Errno
	zero bool
}

func noZeros(z api.Zeros) bool { return z.Circle == 0 && z.Tick == 0 && len(z.Zero) == 0 }

func noCircles(c api.Circles) bool { return len(c.Circles) == 0 && len(c.Checks) == 0 }

// answers calls every function that has circles and an error.
func answers(c api.Circles, a asked) map[string]answer {
	out := map[string]answer{}
	alone, e := circle.Alone(c, a.check)
	out["Alone"] = answer{e, alone == api.Span{}}
	zero, e := circle.Zero(c, a.circle, a.tick)
	out["Zero"] = answer{e, zero == api.Span{}}
	lo, hi, e := circle.Rests(c, a.circle, a.tick)
	out["Rests"] = answer{e, lo == 0 && hi == 0}
	pairs, e := circle.Clashes(c)
	out["Clashes"] = answer{e, len(pairs) == 0}
	suspects, e := circle.Suspects(c)
	out["Suspects"] = answer{e, len(suspects) == 0}
	rest, e := circle.Without(c, a.ids)
	out["Without"] = answer{e, noCircles(rest)}
	merged, e := circle.Merge(c, three())
	out["Merge"] = answer{e, noCircles(merged)}
	merged, e = circle.Merge(three(), c)
	out["Merge behind"] = answer{e, noCircles(merged)}
	lowest, e := circle.Lowest(c, a.circle, a.ticks)
	out["Lowest"] = answer{e, noZeros(lowest)}
	highest, e := circle.Highest(c, a.circle, a.ticks)
	out["Highest"] = answer{e, noZeros(highest)}
	w, e := circle.Wedge(c, a.r)
	out["Wedge"] = answer{e, w == api.Wedge{}}
	needed, e := circle.Needed(c, a.r)
	out["Needed"] = answer{e, len(needed) == 0}
	best, e := circle.Best(c, a.r, a.ticks)
	out["Best"] = answer{e, best == 0}
	return out
}

func TestP5_4CheckComesFirst(t *testing.T) {
	for name, x := range answers(three(), right()) {
		if x.e != api.OK {
			t.Error(name, x.e)
		}
	}
	for _, x := range wrongOnes() {
		for _, a := range []asked{right(), wrong()} {
			for name, got := range answers(x.c, a) {
				if got.e != x.e || !got.zero {
					t.Error(x.name, name, got, "instead of", x.e)
				}
			}
			if n, ok := circle.Fits(x.c, a.zeros); n != -1 || ok {
				t.Error(x.name, "Fits:", n, ok)
			}
		}
	}
}

func TestP5_5Alone(t *testing.T) {
	r := random(11)
	clashes, atEnd, between, round := 0, 0, 0, 0
	for range 3000 {
		c, _ := randomCircles(r, kind{circles: 3, checks: 8, long: 1000, wild: 2})
		for _, k := range c.Checks {
			want, some := plainAlone(c, k)
			got, e := circle.Alone(c, k.ID)
			if some && (got != want || e != api.OK) || !some && (got != api.Span{} || e != api.ErrClash) {
				t.Fatal(c, k, got, e, "instead of", want, some)
			}
			b := plainBearing(circleBy(c, k.Circle).At, k.Mark)
			switch {
			case !some:
				clashes++
			case want.Lo == -300 || want.Hi == 300:
				atEnd++
			case b.num%b.den != 0:
				between++
			}
			if some && abs(k.Shown-b.down()) > 1800 {
				round++
			}
		}
	}
	counted(t, "checks that contradict themselves", clashes, 1000)
	counted(t, "spans at an end", atEnd, 500)
	counted(t, "bearings between divisions", between, 1000)
	counted(t, "checks read beyond the division 0", round, 50)
}

// All that the circle can show of one mark is tried.
func TestP5_5AloneOfEachDivision(t *testing.T) {
	for _, mark := range []api.Place{at(48, 10), at(17, 9), at(10, 48), at(0, 7)} {
		for _, slack := range []int{1, 100} {
			c, clashes := example(), 0
			for shown := range 3600 {
				c.Checks[0] = api.Check{ID: 7, Circle: 1, Tick: 0, Mark: mark, Shown: shown, Slack: slack}
				want, some := plainAlone(c, c.Checks[0])
				got, e := circle.Alone(c, 7)
				if some && (got != want || e != api.OK) || !some && (got != api.Span{} || e != api.ErrClash) {
					t.Fatal(c, got, e)
				}
				if !some {
					clashes++
				}
			}
			if want := 3600 - 601 - 2*slack; clashes != want && clashes != want+1 {
				t.Error(mark, slack, clashes)
			}
		}
	}
}

func TestP5_5AloneErrors(t *testing.T) {
	c := example()
	for _, id := range []int{0, 1, 8, -7, 1 << 40, math.MaxInt, math.MinInt} {
		if s, e := circle.Alone(c, id); s != (api.Span{}) || e != api.ErrNone {
			t.Error(id, s, e)
		}
	}
	if s, e := circle.Alone(c, 7); s != span(3, 7) || e != api.OK {
		t.Error(s, e)
	}
	// That it contradicts the beginning, or another check, is of no account: it is asked by itself.
	c.Checks = append(c.Checks, api.Check{ID: 2, Circle: 1, Mark: at(20, 15), Shown: 500, Slack: 10}, api.Check{ID: 3, Circle: 1, Mark: at(20, 15), Shown: 1800, Slack: 10})
	for id, want := range map[int]answer{7: {api.OK, false}, 2: {api.OK, false}, 3: {api.ErrClash, true}, 4: {api.ErrNone, true}} {
		if s, e := circle.Alone(c, id); e != want.e || (s == api.Span{}) != want.zero {
			t.Error(id, s, e)
		}
	}
}

func sameCircles(a, b api.Circles) bool {
	return slices.Equal(a.Circles, b.Circles) && slices.Equal(a.Checks, b.Checks)
}

func TestP5_8Without(t *testing.T) {
	r := random(12)
	for range 2000 {
		c, _ := randomCircles(r, kind{circles: 4, checks: 12, long: 1000, wild: 3})
		ids := checkIDs(c)
		r.Shuffle(len(ids), func(i, j int) { ids[i], ids[j] = ids[j], ids[i] })
		ids = append(ids[:r.IntN(len(ids)+1)], 1000, 1<<40, 1000)
		want := c
		for _, id := range ids {
			want = less(want, id)
		}
		if got, e := circle.Without(c, ids); e != api.OK || !sameCircles(got, want) {
			t.Fatal(c, ids, got, e)
		}
		if got, e := circle.Without(c, nil); e != api.OK || !sameCircles(got, c) {
			t.Fatal(c, got, e)
		}
	}
}

func TestP5_8WithoutErrors(t *testing.T) {
	for _, ids := range [][]int{{0}, {-1}, {1<<40 + 1}, {7, 0}, {7, 7, 7, math.MaxInt}, {math.MinInt, 7}, {0, 1<<40 + 1}, {55, -7}} {
		if got, e := circle.Without(three(), ids); e != api.ErrArg || !noCircles(got) {
			t.Error(ids, got, e)
		}
	}
	for _, x := range []struct {
		ids  []int
		left int
	}{{nil, 4}, {[]int{3}, 4}, {[]int{1 << 40}, 3}, {[]int{1}, 3}, {[]int{1, 1, 1}, 3}, {[]int{1, 5, 7}, 2}, {[]int{1, 2, 7, 1 << 40}, 0}} {
		if got, e := circle.Without(three(), x.ids); e != api.OK || len(got.Circles) != 3 || len(got.Checks) != x.left {
			t.Error(x, got, e)
		}
	}
	if got, e := circle.Without(api.Circles{}, []int{1}); e != api.OK || !noCircles(got) {
		t.Error(got, e)
	}
}

// plainMerge returns the circles of both, by ID, each once.
func plainMerge(a, b api.Circles) api.Circles {
	out := api.Circles{Circles: slices.Concat(a.Circles, b.Circles), Checks: slices.Concat(a.Checks, b.Checks)}
	slices.SortFunc(out.Circles, func(x, y api.Circle) int { return x.ID - y.ID })
	slices.SortFunc(out.Checks, func(x, y api.Check) int { return x.ID - y.ID })
	out.Circles, out.Checks = slices.Compact(out.Circles), slices.Compact(out.Checks)
	return out
}

// part returns some checks of circles, with their circles, and some other circles.
func part(c api.Circles, has func() bool) api.Circles {
	var out api.Circles
	for _, k := range c.Checks {
		if has() {
			out.Checks = append(out.Checks, k)
		}
	}
	for _, x := range c.Circles {
		of := func(k api.Check) bool { return k.Circle == x.ID }
		if has() || slices.ContainsFunc(out.Checks, of) {
			out.Circles = append(out.Circles, x)
		}
	}
	return out
}

func TestP5_8Merge(t *testing.T) {
	r := random(13)
	some := func() bool { return r.IntN(2) == 0 }
	for range 2000 {
		c, _ := randomCircles(r, kind{circles: 12, checks: 60, long: 1000, wild: 3})
		a, b := mixedUp(r, part(c, some)), mixedUp(r, part(c, some))
		want := plainMerge(a, b)
		for _, x := range [][2]api.Circles{{a, b}, {b, a}} {
			got, e := circle.Merge(x[0], x[1])
			if e != api.OK || !sameCircles(got, want) || circle.Check(got) != api.OK {
				t.Fatal(x, got, e)
			}
		}
		if got, e := circle.Merge(a, a); e != api.OK || !sameCircles(got, plainMerge(a, api.Circles{})) {
			t.Fatal(a, got, e)
		}
	}
}

func TestP5_8MergeTwice(t *testing.T) {
	for name, do := range map[string]func(c *api.Circles){
		"circle's At":    func(c *api.Circles) { c.Circles[0].At.X = 1 },
		"circle's From":  func(c *api.Circles) { c.Circles[0].From = 11 },
		"circle's To":    func(c *api.Circles) { c.Circles[1].To = 999 },
		"circle's Zero":  func(c *api.Circles) { c.Circles[2].Zero.Lo = 6 },
		"circle's Drift": func(c *api.Circles) { c.Circles[2].Drift = 1 },
		"check's Circle": func(c *api.Circles) { c.Checks[2].Circle = 5 },
		"check's Tick":   func(c *api.Circles) { c.Checks[0].Tick = 199 },
		"check's Mark":   func(c *api.Circles) { c.Checks[1].Mark.Y = 1 },
		"check's Shown":  func(c *api.Circles) { c.Checks[3].Shown = 0 },
		"check's Slack":  func(c *api.Circles) { c.Checks[3].Slack = 100 },
	} {
		c := three()
		do(&c)
		for _, x := range [][2]api.Circles{{c, three()}, {three(), c}} {
			if got, e := circle.Merge(x[0], x[1]); e != api.ErrTwice || !noCircles(got) {
				t.Error(name, got, e)
			}
		}
	}
}

func TestP5_8MergeErrors(t *testing.T) {
	many, other := api.Circles{Circles: manyCircles(12)}, api.Circles{Circles: manyCircles(13)[12:]}
	checks := api.Circles{Circles: example().Circles, Checks: manyChecks(60)}
	more := api.Circles{Circles: example().Circles, Checks: manyChecks(61)[60:]}
	late := api.Circles{Circles: example().Circles, Checks: slices.Clone(manyChecks(61)[59:])}
	late.Checks[0].Tick++
	drifts := api.Circles{Circles: slices.Clone(manyCircles(13)[11:])}
	drifts.Circles[0].Drift++
	both := api.Circles{Circles: append(manyCircles(13)[1:], example().Circles[0]), Checks: manyChecks(60)}
	both.Circles = both.Circles[1:]
	lateToo := api.Circles{Circles: []api.Circle{example().Circles[0], {ID: 20}, {ID: 21}}, Checks: late.Checks[:1]}
	wrongArg, wrongTwice := three(), three()
	wrongArg.Circles[0].Drift, wrongTwice.Checks[0].ID = 61, 7
	for _, x := range []struct {
		name string
		a, b api.Circles
		e    api.Errno
	}{
		{"13 circles", many, other, api.ErrLimit}, {"61 checks", checks, more, api.ErrLimit},
		{"12 circles", many, api.Circles{Circles: manyCircles(12)[3:]}, api.OK}, {"60 checks", checks, api.Circles{Circles: checks.Circles, Checks: manyChecks(60)[5:]}, api.OK},
		{"61 checks, one differs", checks, late, api.ErrTwice}, {"13 circles, one differs", many, drifts, api.ErrTwice},
		{"13 circles, a check differs", both, lateToo, api.ErrTwice},
		{"first is wrong", wrongArg, many, api.ErrArg}, {"second is wrong", many, wrongArg, api.ErrArg},
		{"first is wrong otherwise", wrongArg, wrongTwice, api.ErrArg}, {"first is wrong, and not as the second one", wrongTwice, wrongArg, api.ErrTwice},
		{"too much in the first one", other, api.Circles{Circles: manyCircles(13)}, api.ErrLimit},
		{"nothing", api.Circles{}, api.Circles{}, api.OK},
	} {
		got, e := circle.Merge(x.a, x.b)
		if e != x.e || e != api.OK && !noCircles(got) {
			t.Error(x.name, got, e)
		}
	}
}
