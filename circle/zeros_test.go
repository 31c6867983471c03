package circle_test

import (
	"math"
	"slices"
	"testing"

	"firetower/api"
	"firetower/circle"
)

func TestP5_6ZeroOfExample(t *testing.T) {
	for _, x := range []struct {
		tick   int
		want   api.Span
		lo, hi int
	}{{0, span(-5, 5), 0, 0}, {10, span(-6, 6), 0, 0}, {20, span(-5, 7), 7, 0}, {50, span(-2, 10), 7, 0}, {100, span(3, 7), 7, 7}, {101, span(2, 8), 7, 7}, {130, span(0, 10), 7, 7}, {1000, span(-87, 97), 7, 7}} {
		got, e := circle.Zero(example(), 1, x.tick)
		lo, hi, f := circle.Rests(example(), 1, x.tick)
		if got != x.want || e != api.OK || lo != x.lo || hi != x.hi || f != api.OK {
			t.Error(x, got, e, lo, hi, f)
		}
	}
}

// endsOf returns the least and the greatest zero of a minute in lists of zeros.
func endsOf(l [][]int, i int) api.Span {
	out := span(l[0][i], l[0][i])
	for _, z := range l {
		out = span(min(out.Lo, z[i]), max(out.Hi, z[i]))
	}
	return out
}

// All zeros that are possible are listed, minute by minute, as the chapter defines them.
func TestP5_6ZeroByAllPossibleZeros(t *testing.T) {
	r := random(20)
	some, none, ends, long := 0, 0, 0, 0
	for range 4000 {
		c := fewMinutes(r)
		for _, x := range c.Circles {
			l := sequences(c, x.ID)
			for tick := x.From; tick <= x.To; tick++ {
				got, e := circle.Zero(c, x.ID, tick)
				if len(l) == 0 {
					if none++; e != api.ErrClash || got != (api.Span{}) {
						t.Fatal(c, x.ID, tick, got, e)
					}
					continue
				}
				if some++; e != api.OK || got != endsOf(l, tick-x.From) {
					t.Fatal(c, x.ID, tick, got, e)
				}
				if got.Lo == -300 || got.Hi == 300 {
					ends++
				}
				if x.To-x.From > 3 {
					long++
				}
			}
		}
	}
	counted(t, "spans", some, 3000)
	counted(t, "contradictions", none, 1000)
	counted(t, "spans at an end", ends, 300)
	counted(t, "spans of circles with many minutes", long, 500)
}

func TestP5_6ZeroAndRests(t *testing.T) {
	r := random(21)
	zeroth, checks, lowEnd, highEnd, several := 0, 0, 0, 0, 0
	for range 2500 {
		c, _ := randomCircles(r, kind{circles: 3, checks: 10, long: []int{5, 300, 5000, 1 << 20}[r.IntN(4)]})
		x := c.Circles[r.IntN(len(c.Circles))]
		things := thingsOf(c, x.ID)
		for range 5 {
			tick := minuteOf(r, x)
			want := spanBy(x.Drift, things, tick)
			if got, e := circle.Zero(c, x.ID, tick); e != api.OK || got != want {
				t.Fatal(c, x.ID, tick, got, e, "instead of", want)
			}
			wantLo, wantHi := plainRests(x.Drift, things, tick)
			lo, hi, e := circle.Rests(c, x.ID, tick)
			if e != api.OK || lo != wantLo || hi != wantHi {
				t.Fatal(c, x.ID, tick, lo, hi, e, "instead of", wantLo, wantHi)
			}
			switch {
			case want.Lo == -300:
				lowEnd++
			case lo == 0:
				zeroth++
			default:
				checks++
			}
			if want.Hi == 300 {
				highEnd++
			}
			for _, y := range things {
				if want.Lo != -300 && y.id > lo && spanBy(x.Drift, []known{y}, tick).Lo == want.Lo {
					several++
				}
			}
		}
	}
	counted(t, "zeros that rest on the beginning", zeroth, 500)
	counted(t, "zeros that rest on checks", checks, 2000)
	counted(t, "least zeros of all", lowEnd, 500)
	counted(t, "greatest zeros of all", highEnd, 500)
	counted(t, "zeros that rest on several things", several, 500)
}

// Two checks that say the same, in each order, and a beginning that says it, too.
func TestP5_6RestsOnTheLeastNumber(t *testing.T) {
	c := example()
	c.Circles[0].Drift = 0
	c.Circles[0].Zero = span(-10, 10)
	for _, ids := range [][2]int{{9, 4}, {4, 9}} {
		c.Checks = nil
		for i, id := range ids {
			c.Checks = append(c.Checks, api.Check{ID: id, Circle: 1, Tick: 100 * i, Mark: at(20, 15), Shown: 230, Slack: 2})
		}
		if lo, hi, e := circle.Rests(c, 1, 50); lo != 4 || hi != 4 || e != api.OK {
			t.Error(ids, lo, hi, e)
		}
	}
	c.Circles[0].Zero = span(3, 10)
	if lo, hi, e := circle.Rests(c, 1, 50); lo != 0 || hi != 4 || e != api.OK {
		t.Error(lo, hi, e)
	}
	c.Circles[0].Zero = span(-10, 7)
	if lo, hi, e := circle.Rests(c, 1, 50); lo != 4 || hi != 0 || e != api.OK {
		t.Error(lo, hi, e)
	}
}

// Where nothing bounds the zero, it rests on nothing, also if a check alone would say just that.
func TestP5_6RestsOnNothing(t *testing.T) {
	c := example()
	c.Circles[0].Zero = span(-290, 290)
	c.Checks[0] = api.Check{ID: 3, Circle: 1, Tick: 500, Mark: at(20, 15), Shown: 225 - 200, Slack: 100}
	for _, x := range []struct {
		tick, lo, hi int
		want         api.Span
	}{{0, 0, 3, span(-290, -50)}, {99, 0, 3, span(-300, -59)}, {500, 0, 3, span(-300, -100)}, {1000, 0, 3, span(-300, -50)}} {
		lo, hi, e := circle.Rests(c, 1, x.tick)
		if z, _ := circle.Zero(c, 1, x.tick); z != x.want || lo != x.lo || hi != x.hi || e != api.OK {
			t.Error(x, z, lo, hi, e)
		}
	}
}

func TestP5_6Errors(t *testing.T) {
	clash := example()
	clash.Checks = append(clash.Checks, api.Check{ID: 9, Circle: 1, Tick: 105, Mark: at(20, 15), Shown: 240, Slack: 2})
	never := example()
	never.Checks[0].Shown = 2000
	start := example()
	start.Checks[0].Shown, start.Checks[0].Tick = 235, 9
	other := example()
	other.Circles = append(other.Circles, api.Circle{ID: 2, At: at(10, 10), To: 1000})
	other.Checks = append(other.Checks, api.Check{ID: 9, Circle: 2, Tick: 105, Mark: at(20, 15), Shown: 2000, Slack: 2})
	for _, x := range []struct {
		name         string
		c            api.Circles
		circle, tick int
		e            api.Errno
	}{
		{"other circle", example(), 2, 100, api.ErrNone}, {"circle 0", example(), 0, 100, api.ErrNone}, {"circle far off", example(), math.MinInt, 100, api.ErrNone},
		{"no circles", api.Circles{}, 1, 100, api.ErrNone}, {"number of a check", example(), 7, 100, api.ErrNone},
		{"before", example(), 1, -1, api.ErrArg}, {"after", example(), 1, 1001, api.ErrArg}, {"long before", example(), 1, math.MinInt, api.ErrArg}, {"long after", example(), 1, math.MaxInt, api.ErrArg},
		{"before a later circle", three(), 5, 9, api.ErrArg}, {"after the season", three(), 5, 1<<20 + 1, api.ErrArg}, {"beside the minute", three(), 1 << 40, 501, api.ErrArg},
		{"none, and before", example(), 2, -1, api.ErrNone}, {"none, and a contradiction", clash, 2, 100, api.ErrNone}, {"before, and a contradiction", clash, 1, -1, api.ErrArg}, {"after, and a contradiction", never, 1, 1001, api.ErrArg},
		{"checks", clash, 1, 0, api.ErrClash}, {"check itself", never, 1, 0, api.ErrClash}, {"beginning", start, 1, 1000, api.ErrClash},
		{"contradiction elsewhere", other, 1, 0, api.OK}, {"contradiction there", other, 2, 0, api.ErrClash},
	} {
		z, e := circle.Zero(x.c, x.circle, x.tick)
		lo, hi, f := circle.Rests(x.c, x.circle, x.tick)
		if e != x.e || f != x.e || e != api.OK && (z != api.Span{} || lo != 0 || hi != 0) {
			t.Error(x.name, z, e, lo, hi, f)
		}
	}
}

func TestP5_7ClashesAndSuspects(t *testing.T) {
	r := random(22)
	nothing, many, selfs, started, one, two, none := 0, 0, 0, 0, 0, 0, 0
	for range 1500 {
		c, _ := randomCircles(r, kind{circles: 1 + r.IntN(3), checks: []int{3, 7}[r.IntN(2)], long: []int{5, 300, 5000}[r.IntN(3)], wild: 1 + r.IntN(6)})
		want := plainClashes(c)
		pairs, e := circle.Clashes(c)
		if e != api.OK || !slices.Equal(pairs, want) {
			t.Fatal(c, pairs, e, "instead of", want)
		}
		suspects := plainSuspects(c)
		if got, e := circle.Suspects(c); e != api.OK || !slices.Equal(got, suspects) {
			t.Fatal(c, got, e, "instead of", suspects)
		}
		if len(want) > 1 {
			many++
		}
		for _, pair := range want {
			if pair[0] == pair[1] {
				selfs++
			}
			if pair[0] == 0 {
				started++
			}
		}
		switch {
		case len(want) == 0:
			nothing++
		case len(suspects) == 0:
			none++
		case len(suspects) == 1:
			one++
		default:
			two++
		}
	}
	counted(t, "circles without contradictions", nothing, 200)
	counted(t, "circles with several contradictions", many, 200)
	counted(t, "checks that contradict themselves", selfs, 300)
	counted(t, "contradictions of the beginning", started, 300)
	counted(t, "circles with one suspect", one, 100)
	counted(t, "circles with two suspects", two, 20)
	counted(t, "contradictions without a suspect", none, 100)
}

// Pairs come circle by circle, in the order of the circles, not of their IDs; checks in the order of theirs, not of the list.
func TestP5_7Order(t *testing.T) {
	c := api.Circles{Circles: []api.Circle{{ID: 9, At: at(10, 10), To: 1000}, {ID: 2, At: at(10, 10), To: 1000, Zero: span(-100, 100)}}}
	for _, x := range []struct{ id, circle, shown int }{{8, 2, 228}, {3, 9, 2000}, {20, 9, 235}, {4, 2, 250}, {6, 2, 240}, {1, 9, 225}, {7, 2, 2000}, {5, 2, 30}} {
		c.Checks = append(c.Checks, api.Check{ID: x.id, Circle: x.circle, Tick: 50, Mark: at(20, 15), Shown: x.shown, Slack: 2})
	}
	want := [][2]int{{0, 20}, {1, 20}, {3, 3}, {0, 5}, {4, 5}, {4, 6}, {4, 8}, {5, 6}, {5, 8}, {6, 8}, {7, 7}}
	if got, e := circle.Clashes(c); e != api.OK || !slices.Equal(got, want) {
		t.Error(got, e)
	}
	if got, e := circle.Suspects(c); e != api.OK || len(got) != 0 {
		t.Error(got, e)
	}
}

func TestP5_7Suspects(t *testing.T) {
	base := example()
	base.Checks = append(base.Checks, api.Check{ID: 9, Circle: 1, Tick: 105, Mark: at(20, 15), Shown: 240, Slack: 2})
	apart := example()
	apart.Circles = append(apart.Circles, api.Circle{ID: 2, At: at(10, 10), To: 1000})
	apart.Checks[0].Shown = 2000
	apart.Checks = append(apart.Checks, api.Check{ID: 9, Circle: 2, Mark: at(20, 15), Shown: 2000, Slack: 2})
	three := example()
	three.Checks[0].Shown = 260
	three.Checks = append(three.Checks, api.Check{ID: 3, Circle: 1, Tick: 105, Mark: at(20, 15), Shown: 225, Slack: 2})
	for _, x := range []struct {
		name     string
		c        api.Circles
		pairs    [][2]int
		suspects []int
	}{
		{"nothing", example(), nil, nil}, {"no circles", api.Circles{}, nil, nil},
		{"two checks", base, [][2]int{{7, 9}}, []int{7, 9}},
		{"in two circles", apart, [][2]int{{7, 7}, {9, 9}}, nil},
		{"one against all", three, [][2]int{{0, 7}, {3, 7}}, []int{7}},
	} {
		pairs, e := circle.Clashes(x.c)
		suspects, f := circle.Suspects(x.c)
		if e != api.OK || f != api.OK || !slices.Equal(pairs, x.pairs) || !slices.Equal(suspects, x.suspects) {
			t.Error(x.name, pairs, e, suspects, f)
		}
	}
}

// Just as far as the zero drifts is no contradiction, one division more is one.
func TestP5_7JustAsFar(t *testing.T) {
	for _, drift := range []int{0, 1, 6, 59, 60} {
		for _, minutes := range []int{0, 1, 9, 10, 11, 59, 60, 61, 119, 121} {
			far := drifted(drift, 0, minutes)
			for _, way := range []int{1, -1} {
				for beyond := range 2 {
					c := example()
					c.Circles[0].Drift, c.Circles[0].Zero = drift, span(-4, 4)
					c.Checks[0] = api.Check{ID: 7, Circle: 1, Tick: minutes, Mark: at(20, 15), Shown: 225 + way*(4+far+beyond+1), Slack: 1}
					pairs, e := circle.Clashes(c)
					if e != api.OK || len(pairs) != beyond {
						t.Error(drift, minutes, way, beyond, pairs, e)
					}
				}
			}
		}
	}
}

// someMinutes returns a list of zeros, each of which can be at its minute.
func someMinutes(c api.Circles, id int, ticks api.Span, end func(z api.Span) int) api.Zeros {
	out := api.Zeros{Circle: id, Tick: ticks.Lo}
	for t := ticks.Lo; t <= ticks.Hi; t++ {
		out.Zero = append(out.Zero, end(plainZero(c, id, t)))
	}
	return out
}

func sameZeros(a, b api.Zeros) bool {
	return a.Circle == b.Circle && a.Tick == b.Tick && slices.Equal(a.Zero, b.Zero)
}

func TestP5_9LowestAndHighest(t *testing.T) {
	r := random(23)
	whole := 0
	for range 150 {
		c, _ := randomCircles(r, kind{circles: 3, checks: 4, long: []int{5, 300, 2000}[r.IntN(3)]})
		x := c.Circles[r.IntN(len(c.Circles))]
		ticks := minutesOf(r, x)
		lowest, e := circle.Lowest(c, x.ID, ticks)
		highest, f := circle.Highest(c, x.ID, ticks)
		if e != api.OK || !sameZeros(lowest, someMinutes(c, x.ID, ticks, func(z api.Span) int { return z.Lo })) {
			t.Fatal(c, x.ID, ticks, lowest, e)
		}
		if f != api.OK || !sameZeros(highest, someMinutes(c, x.ID, ticks, func(z api.Span) int { return z.Hi })) {
			t.Fatal(c, x.ID, ticks, highest, f)
		}
		if len(lowest.Zero) == 400 {
			whole++
		}
	}
	counted(t, "lists of 400 minutes", whole, 5)
}

func TestP5_9Errors(t *testing.T) {
	clash := example()
	clash.Checks = append(clash.Checks, api.Check{ID: 9, Circle: 1, Tick: 105, Mark: at(20, 15), Shown: 240, Slack: 2})
	const most, least = math.MaxInt, math.MinInt
	for _, x := range []struct {
		name   string
		c      api.Circles
		circle int
		ticks  api.Span
		e      api.Errno
	}{
		{"400 minutes", example(), 1, span(0, 399), api.OK}, {"last 400 minutes", example(), 1, span(601, 1000), api.OK}, {"one minute", example(), 1, span(1000, 1000), api.OK},
		{"401 minutes", example(), 1, span(0, 400), api.ErrLimit}, {"all minutes", example(), 1, span(0, 1000), api.ErrLimit},
		{"none", example(), 2, span(0, 5), api.ErrNone}, {"no circles", api.Circles{}, 1, span(0, 5), api.ErrNone}, {"circle far off", example(), least, span(0, 5), api.ErrNone},
		{"no span", example(), 1, span(5, 4), api.ErrArg}, {"far from a span", example(), 1, span(1000, 0), api.ErrArg}, {"before", example(), 1, span(-1, 5), api.ErrArg}, {"after", example(), 1, span(900, 1001), api.ErrArg},
		{"all before", example(), 1, span(-5, -1), api.ErrArg}, {"all after", example(), 1, span(1001, 1005), api.ErrArg},
		{"all minutes of all", example(), 1, span(least, most), api.ErrArg}, {"no minutes of all", example(), 1, span(most, least), api.ErrArg}, {"long before", example(), 1, span(least, 5), api.ErrArg}, {"long after", example(), 1, span(5, most), api.ErrArg},
		{"none, and no span", example(), 2, span(5, 4), api.ErrNone}, {"none, and too many", example(), 2, span(0, 400), api.ErrNone}, {"none, and a contradiction", clash, 2, span(0, 5), api.ErrNone},
		{"too many, and beyond", example(), 1, span(900, 1500), api.ErrArg}, {"too many, and before", example(), 1, span(-1, 999), api.ErrArg},
		{"no span, and a contradiction", clash, 1, span(5, 4), api.ErrArg}, {"beyond, and a contradiction", clash, 1, span(900, 1001), api.ErrArg},
		{"too many, and a contradiction", clash, 1, span(0, 400), api.ErrLimit}, {"contradiction", clash, 1, span(0, 399), api.ErrClash},
	} {
		lowest, e := circle.Lowest(x.c, x.circle, x.ticks)
		highest, f := circle.Highest(x.c, x.circle, x.ticks)
		if e != x.e || f != x.e || e != api.OK && (!noZeros(lowest) || !noZeros(highest)) {
			t.Error(x.name, lowest, e, highest, f)
		}
	}
}

// fitsBy returns how many of some zeros are possible, by all zeros that are possible.
func fitsBy(all [][]int, x api.Circle, z api.Zeros) int {
	for n := len(z.Zero); n > 0; n-- {
		for _, l := range all {
			if slices.Equal(l[z.Tick-x.From:][:n], z.Zero[:n]) {
				return n
			}
		}
	}
	return 0
}

func TestP5_9FitsByAllPossibleZeros(t *testing.T) {
	r := random(24)
	fit, not, later, none := 0, 0, 0, 0
	for range 4000 {
		c := fewMinutes(r)
		for _, x := range c.Circles {
			all := sequences(c, x.ID)
			z := api.Zeros{Circle: x.ID, Tick: x.From + r.IntN(x.To-x.From+1)}
			z.Zero = make([]int, 1+r.IntN(x.To-z.Tick+1))
			if len(all) > 0 {
				copy(z.Zero, all[r.IntN(len(all))][z.Tick-x.From:])
			}
			if r.IntN(3) > 0 {
				z.Zero[r.IntN(len(z.Zero))] += r.IntN(5) - 2
			}
			n := fitsBy(all, x, z)
			got, ok := circle.Fits(c, z)
			if n == len(z.Zero) {
				if fit++; !ok || got != -1 {
					t.Fatal(c, z, got, ok)
				}
				continue
			}
			if not++; ok || got != z.Tick+n {
				t.Fatal(c, z, got, ok, "instead of", z.Tick+n)
			}
			if n > 1 {
				later++
			}
			if len(all) == 0 {
				none++
			}
		}
	}
	counted(t, "zeros that fit", fit, 800)
	counted(t, "zeros that do not fit", not, 800)
	counted(t, "zeros that do not fit later on", later, 50)
	counted(t, "zeros of circles that contradict themselves", none, 500)
}

// In a step a zero can drift by one division, but not in each of several steps.
func TestP5_9FitsLooksBackFar(t *testing.T) {
	c := api.Circles{Circles: []api.Circle{{ID: 1, At: at(10, 10), To: 1000, Zero: span(0, 0), Drift: 6}}}
	for _, x := range []struct {
		tick int
		l    []int
		want int
	}{
		{0, []int{0, 1, 1, 1, 1, 1, 1, 1, 1, 1, 1, 2}, -1}, {0, []int{0, 1, 1, 1, 1, 1, 1, 1, 1, 1, 2}, 10}, {0, []int{0, 1, 2}, 2}, {5, []int{1, 0, -1}, 7},
		{5, []int{-1, 0, 0}, -1}, {5, []int{-1, 0, 0, 1}, 8}, {5, []int{-1, 0, 0, 0, 0, 0, 0, 0, 0, 0, 0, 1}, -1}, {0, []int{1}, 0}, {1, []int{2}, 1}, {1, []int{1}, -1},
		{1, []int{1, 1, 2}, 3}, {11, []int{2, 2}, -1}, {10, []int{2, 2}, 10},
	} {
		got, ok := circle.Fits(c, api.Zeros{Circle: 1, Tick: x.tick, Zero: x.l})
		if got != x.want || ok != (x.want == -1) {
			t.Error(x, got, ok)
		}
	}
}

func TestP5_9FitsWrongOnes(t *testing.T) {
	clash := example()
	clash.Checks = append(clash.Checks, api.Check{ID: 9, Circle: 1, Tick: 105, Mark: at(20, 15), Shown: 240, Slack: 2})
	const most, least = math.MaxInt, math.MinInt
	for _, x := range []struct {
		name string
		c    api.Circles
		z    api.Zeros
		want int
		ok   bool
	}{
		{"no such circle", example(), api.Zeros{Circle: 2, Zero: []int{0}}, -1, false}, {"no circles", api.Circles{}, api.Zeros{Circle: 1, Zero: []int{0}}, -1, false}, {"circle 0", example(), api.Zeros{Zero: []int{0}}, -1, false},
		{"no zeros", example(), api.Zeros{Circle: 1}, -1, false}, {"no zeros at a wrong minute", example(), api.Zeros{Circle: 1, Tick: 1001}, -1, false}, {"no zeros behind the last minute", example(), api.Zeros{Circle: 1, Tick: 1001, Zero: []int{}}, -1, false},
		{"400 zeros", example(), api.Zeros{Circle: 1, Tick: 200, Zero: make([]int, 400)}, -1, true}, {"401 zeros", example(), api.Zeros{Circle: 1, Tick: 200, Zero: make([]int, 401)}, -1, false}, {"more zeros than minutes", example(), api.Zeros{Circle: 1, Zero: make([]int, 2000)}, -1, false},
		{"last minutes", example(), api.Zeros{Circle: 1, Tick: 601, Zero: make([]int, 400)}, -1, true}, {"beyond the last minute", example(), api.Zeros{Circle: 1, Tick: 602, Zero: make([]int, 400)}, -1, false},
		{"last minute", example(), api.Zeros{Circle: 1, Tick: 1000, Zero: []int{97}}, -1, true}, {"after the last minute", example(), api.Zeros{Circle: 1, Tick: 1001, Zero: []int{0}}, -1, false}, {"before the first minute", example(), api.Zeros{Circle: 1, Tick: -1, Zero: []int{0, 0}}, -1, false},
		{"long after", example(), api.Zeros{Circle: 1, Tick: most, Zero: []int{0, 0}}, -1, false}, {"long before", example(), api.Zeros{Circle: 1, Tick: least, Zero: []int{0, 0}}, -1, false},
		{"too great", example(), api.Zeros{Circle: 1, Tick: 100, Zero: []int{4, 4, most}}, 102, false}, {"too little", example(), api.Zeros{Circle: 1, Tick: 100, Zero: []int{4, least, most}}, 101, false}, {"far too great", example(), api.Zeros{Circle: 1, Tick: 100, Zero: []int{most, least}}, 100, false},
		{"contradiction", clash, api.Zeros{Circle: 1, Tick: 20, Zero: []int{0, 0}}, 20, false}, {"contradiction, and no zeros", clash, api.Zeros{Circle: 1, Tick: 20}, -1, false}, {"contradiction, and beyond", clash, api.Zeros{Circle: 1, Tick: 999, Zero: make([]int, 3)}, -1, false},
	} {
		if got, ok := circle.Fits(x.c, x.z); got != x.want || ok != x.ok {
			t.Error(x.name, got, ok)
		}
	}
}
