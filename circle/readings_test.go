package circle_test

import (
	"math"
	"slices"
	"testing"

	"firetower/api"
	"firetower/circle"
)

// plainShows returns the least and the greatest integer that differs little enough from a bearing and a zero.
func plainShows(b ratio, zero, slack int) api.Span {
	var l []int
	for n := -500; n <= 4100; n++ {
		if abs(b.num+(zero-n)*b.den) <= slack*b.den {
			l = append(l, n)
		}
	}
	return span(l[0], l[len(l)-1])
}

func TestP5_10Shows(t *testing.T) {
	r := random(30)
	negative, beyond, between := 0, 0, 0
	for range 3000 {
		from := randomPlace(r)
		p := otherPlace(r, from)
		b := plainBearing(from, p)
		zero, slack := []int{r.IntN(601) - 300, 300, -300, 0}[r.IntN(4)], randomSlack(r)
		want := plainShows(b, zero, slack)
		if got, ok := circle.Shows(from, p, zero, slack); !ok || got != want {
			t.Fatal(from, p, zero, slack, got, ok, "instead of", want)
		}
		if want.Lo < 0 {
			negative++
		}
		if want.Hi > 3599 {
			beyond++
		}
		if b.num%b.den != 0 {
			between++
		}
	}
	counted(t, "readings less than 0", negative, 100)
	counted(t, "readings beyond the last division", beyond, 50)
	counted(t, "bearings between divisions", between, 1000)
}

func TestP5_10ShowsOfExamples(t *testing.T) {
	for _, x := range []struct {
		p           api.Place
		zero, slack int
		want        api.Span
	}{{at(20, 15), 3, 2, span(226, 230)}, {at(17, 11), 0, 1, span(64, 65)}, {at(20, 10), -3, 1, span(-4, -2)}, {at(20, 9), 60, 1, span(3614, 3616)}, {at(20, 10), -300, 100, span(-400, -200)}, {at(17, 9), 300, 100, span(3736, 3935)}} {
		if got, ok := circle.Shows(at(10, 10), x.p, x.zero, x.slack); !ok || got != x.want {
			t.Error(x, got, ok)
		}
	}
}

func TestP5_10ShowsNothing(t *testing.T) {
	a, b := at(10, 10), at(20, 15)
	for _, zero := range []int{-301, 301, math.MinInt, math.MaxInt} {
		if got, ok := circle.Shows(a, b, zero, 2); ok || got != (api.Span{}) {
			t.Error(zero, got)
		}
	}
	for _, slack := range []int{0, -1, 101, math.MinInt, math.MaxInt} {
		if got, ok := circle.Shows(a, b, 3, slack); ok || got != (api.Span{}) {
			t.Error(slack, got)
		}
	}
	for _, p := range append(wrongPlaces(), a) {
		for _, x := range [][2]api.Place{{a, p}, {p, a}, {p, p}} {
			if got, ok := circle.Shows(x[0], x[1], 3, 2); ok || got != (api.Span{}) {
				t.Error(x, got)
			}
		}
	}
}

func TestP5_11Wedge(t *testing.T) {
	r := random(31)
	wide, narrow, round := 0, 0, 0
	for range 3000 {
		c, _ := randomCircles(r, kind{circles: 3, checks: 5, long: []int{5, 300, 5000}[r.IntN(3)]})
		x := randomReading(r, c)
		z, want := plainZero(c, x.Circle, x.Tick), plainWedge(c, x)
		n := 2*x.Slack + z.Hi - z.Lo
		if got, e := circle.Wedge(c, x); e != api.OK || got != want || circle.Opening(got) != n {
			t.Fatal(c, x, got, e, "instead of", want)
		}
		if want.From > want.To {
			round++
		}
		if n > 400 {
			wide++
		}
		if n < 20 {
			narrow++
		}
	}
	counted(t, "wide wedges", wide, 50)
	counted(t, "narrow wedges", narrow, 500)
	counted(t, "wedges over the division 0", round, 50)
}

// free returns circles of which nothing is known but a span of zeros at the beginning.
func free(zero api.Span, drift int) api.Circles {
	return api.Circles{Circles: []api.Circle{{ID: 1, At: at(10, 10), To: 100000, Zero: zero, Drift: drift}}}
}

// With all zeros and all slack a wedge has an opening of 800, so that no reading is too wide.
func TestP5_11WidestWedge(t *testing.T) {
	for _, shown := range []int{0, 1, 399, 400, 900, 3200, 3599} {
		got, e := circle.Wedge(free(span(-300, 300), 60), api.Reading{Circle: 1, Tick: 100, Shown: shown, Slack: 100})
		if e != api.OK || got != wedge(rest(shown-400), rest(shown+400)) {
			t.Error(shown, got, e)
		}
	}
}

func TestP5_11WedgeOfExamples(t *testing.T) {
	for _, x := range []struct {
		r    api.Reading
		want api.Wedge
	}{
		{api.Reading{Circle: 1, Tick: 100, Shown: 900, Slack: 1}, wedge(892, 898)}, {api.Reading{Circle: 1, Tick: 100, Shown: 2, Slack: 1}, wedge(3594, 0)}, {api.Reading{Circle: 1, Tick: 1000, Shown: 900, Slack: 100}, wedge(703, 1087)},
		{api.Reading{Circle: 1, Shown: 0, Slack: 1}, wedge(3594, 6)}, {api.Reading{Circle: 1, Shown: 3599, Slack: 1}, wedge(3593, 5)}, {api.Reading{Circle: 1, Tick: 130, Shown: 9, Slack: 1}, wedge(3598, 10)},
	} {
		if got, e := circle.Wedge(example(), x.r); e != api.OK || got != x.want {
			t.Error(x, got, e)
		}
	}
}

// wrongReading is a reading of the circles of the examples, or of ones that contradict themselves, and its error.
type wrongReading struct {
	name  string
	clash bool
	r     api.Reading
	e     api.Errno
}

// wrongReadings returns readings that can be by no circle.
func wrongReadings() []wrongReading {
	const most, least = math.MaxInt, math.MinInt
	var out []wrongReading
	for _, n := range []int{-1, 3600, most, least} {
		out = append(out, wrongReading{"shown", false, api.Reading{Circle: 1, Tick: 100, Shown: n, Slack: 1}, api.ErrArg})
		out = append(out, wrongReading{"shown, no circle", false, api.Reading{Circle: 2, Tick: 100, Shown: n, Slack: 1}, api.ErrArg})
		out = append(out, wrongReading{"shown, contradiction", true, api.Reading{Circle: 1, Tick: 100, Shown: n, Slack: 1}, api.ErrArg})
	}
	for _, n := range []int{0, -1, 101, most, least} {
		out = append(out, wrongReading{"slack", false, api.Reading{Circle: 1, Tick: 100, Shown: 900, Slack: n}, api.ErrArg})
		out = append(out, wrongReading{"slack, no circle", false, api.Reading{Circle: 2, Tick: 100, Shown: 900, Slack: n}, api.ErrArg})
		out = append(out, wrongReading{"slack, contradiction", true, api.Reading{Circle: 1, Tick: 100, Shown: 900, Slack: n}, api.ErrArg})
	}
	for _, n := range []int{-1, 1001, most, least} {
		out = append(out, wrongReading{"tick", false, api.Reading{Circle: 1, Tick: n, Shown: 900, Slack: 1}, api.ErrArg})
		out = append(out, wrongReading{"tick, contradiction", true, api.Reading{Circle: 1, Tick: n, Shown: 900, Slack: 1}, api.ErrArg})
		out = append(out, wrongReading{"tick, no circle", true, api.Reading{Circle: 2, Tick: n, Shown: 900, Slack: 1}, api.ErrNone})
		out = append(out, wrongReading{"circle", false, api.Reading{Circle: n, Tick: 100, Shown: 900, Slack: 1}, api.ErrNone})
	}
	return append(out,
		wrongReading{"no circle", false, api.Reading{Circle: 2, Tick: 100, Shown: 900, Slack: 1}, api.ErrNone},
		wrongReading{"no circle, contradiction", true, api.Reading{Circle: 2, Tick: 100, Shown: 900, Slack: 1}, api.ErrNone},
		wrongReading{"contradiction", true, api.Reading{Circle: 1, Tick: 100, Shown: 900, Slack: 1}, api.ErrClash})
}

// clashing returns the circles of the examples with a check that contradicts theirs.
func clashing() api.Circles {
	c := example()
	c.Checks = append(c.Checks, api.Check{ID: 9, Circle: 1, Tick: 105, Mark: at(20, 15), Shown: 240, Slack: 2})
	return c
}

func TestP5_11ReadingErrors(t *testing.T) {
	for _, x := range wrongReadings() {
		c := example()
		if x.clash {
			c = clashing()
		}
		w, e := circle.Wedge(c, x.r)
		needed, f := circle.Needed(c, x.r)
		if e != x.e || f != x.e || w != (api.Wedge{}) || len(needed) != 0 {
			t.Error(x, w, e, needed, f)
		}
		// What is wrong with a reading comes before what is wrong with the minutes.
		for _, ticks := range []api.Span{span(0, 5), span(5, 4), span(0, 400), span(900, 1001), span(math.MinInt, math.MaxInt)} {
			if n, e := circle.Best(c, x.r, ticks); e != x.e || n != 0 {
				t.Error(x, ticks, n, e)
			}
		}
	}
	if w, e := circle.Wedge(api.Circles{}, api.Reading{Circle: 1, Slack: 1}); e != api.ErrNone || w != (api.Wedge{}) {
		t.Error(w, e)
	}
}

func TestP5_12Needed(t *testing.T) {
	r := random(32)
	none, one, two, spare := 0, 0, 0, 0
	for range 1200 {
		c, _ := randomCircles(r, kind{circles: 2, checks: 7, long: []int{5, 300, 5000}[r.IntN(3)]})
		x := randomReading(r, c)
		want := plainNeeded(c, x)
		if got, e := circle.Needed(c, x); e != api.OK || !slices.Equal(got, want) {
			t.Fatal(c, x, got, e, "instead of", want)
		}
		if len(want) < len(c.Checks) {
			spare++
		}
		switch len(want) {
		case 0:
			none++
		case 1:
			one++
		default:
			two++
		}
	}
	counted(t, "wedges that need no check", none, 200)
	counted(t, "wedges that need one check", one, 200)
	counted(t, "wedges that need two checks", two, 50)
	counted(t, "checks that are not needed", spare, 500)
}

func TestP5_12NeededInOrder(t *testing.T) {
	c := free(span(-300, 300), 60)
	c.Checks = []api.Check{
		{ID: 9, Circle: 1, Tick: 500, Mark: at(20, 15), Shown: 225, Slack: 40},
		{ID: 4, Circle: 1, Tick: 501, Mark: at(20, 15), Shown: 255, Slack: 40},
	}
	x := api.Reading{Circle: 1, Tick: 500, Shown: 900, Slack: 5}
	if l, e := circle.Needed(c, x); e != api.OK || !slices.Equal(l, []int{4, 9}) {
		t.Error(l, e)
	}
	// What one of two equal checks says is said without it, too.
	c.Checks = append(c.Checks, c.Checks[0])
	c.Checks[2].ID = 1
	if l, e := circle.Needed(c, x); e != api.OK || !slices.Equal(l, []int{4}) {
		t.Error(l, e)
	}
	if l, e := circle.Needed(free(span(-5, 5), 1), x); e != api.OK || len(l) != 0 {
		t.Error(l, e)
	}
}

func TestP5_12Best(t *testing.T) {
	r := random(33)
	first, last, inside, own := 0, 0, 0, 0
	for range 800 {
		c, _ := randomCircles(r, kind{circles: 2, checks: 6, long: []int{20, 300, 2000}[r.IntN(3)]})
		x := randomReading(r, c)
		by := circleBy(c, x.Circle)
		ticks := minutesOf(r, by)
		if n := x.Tick - by.From; n > 0 && r.IntN(2) == 0 {
			hi := x.Tick - 1 - r.IntN(min(n, 20))
			ticks = span(max(by.From, hi-r.IntN(60)), hi)
		}
		want := plainBest(c, x, ticks)
		if got, e := circle.Best(c, x, ticks); e != api.OK || got != want {
			t.Fatal(c, x, ticks, got, e, "instead of", want)
		}
		switch want {
		case x.Tick:
			own++
		case ticks.Lo:
			first++
		case ticks.Hi:
			last++
		default:
			inside++
		}
	}
	counted(t, "first minutes", first, 50)
	counted(t, "last minutes", last, 20)
	counted(t, "minutes of the reading", own, 50)
	counted(t, "minutes between", inside, 30)
}

func TestP5_12BestOfExamples(t *testing.T) {
	x := api.Reading{Circle: 1, Tick: 130, Shown: 900, Slack: 1}
	for _, y := range []struct {
		ticks api.Span
		want  int
	}{{span(0, 300), 130}, {span(140, 300), 140}, {span(0, 120), 120}, {span(130, 130), 130}, {span(131, 131), 131}, {span(1000, 1000), 1000}, {span(601, 1000), 601}} {
		if got, e := circle.Best(example(), x, y.ticks); e != api.OK || got != y.want {
			t.Error(y, got, e, plainBest(example(), x, y.ticks))
		}
	}
}

// Where the minutes are too far off to make the wedge narrower, all are of the same use.
func TestP5_12BestOfNoUse(t *testing.T) {
	x := api.Reading{Circle: 1, Tick: 90000, Shown: 900, Slack: 100}
	for _, y := range []struct {
		ticks api.Span
		want  int
	}{{span(0, 399), 0}, {span(89601, 90000), 90000}, {span(90000, 90399), 90000}, {span(89000, 89399), 89000}, {span(89010, 89409), 89409}, {span(95000, 95001), 95000}} {
		if got, e := circle.Best(free(span(-300, 300), 60), x, y.ticks); e != api.OK || got != y.want {
			t.Error(y, got, e)
		}
	}
}

func TestP5_12BestErrors(t *testing.T) {
	x := api.Reading{Circle: 1, Tick: 130, Shown: 900, Slack: 1}
	for _, y := range []struct {
		ticks api.Span
		e     api.Errno
	}{
		{span(0, 399), api.OK}, {span(0, 400), api.ErrLimit}, {span(0, 1000), api.ErrLimit}, {span(5, 4), api.ErrArg}, {span(-1, 5), api.ErrArg}, {span(900, 1001), api.ErrArg}, {span(-1, 1001), api.ErrArg},
		{span(math.MinInt, math.MaxInt), api.ErrArg}, {span(math.MaxInt, math.MinInt), api.ErrArg}, {span(math.MinInt, 5), api.ErrArg}, {span(5, math.MaxInt), api.ErrArg},
	} {
		if n, e := circle.Best(example(), x, y.ticks); e != y.e || e != api.OK && n != 0 {
			t.Error(y, n, e)
		}
	}
}
