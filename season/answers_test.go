package season_test

import (
	"fmt"
	"slices"
	"testing"

	"firetower/api"
	"firetower/season"
)

// versions returns versions with some sources, from the day 0 on, by tens.
func versions(t *testing.T, l ...string) []api.Version {
	t.Helper()
	p := play(t, flat())
	for i, source := range l {
		did(t, p, adopt(10*i, source))
	}
	return p.Versions()
}

// answers fails a test unless the line of the answer to a question is the wanted one.
func answers(t *testing.T, a asked, want string) {
	t.Helper()
	r := a.answer()
	if got := plainReply(a.q, r); got != want {
		t.Errorf("%+v: %q instead of %q", a.q, got, want)
	}
	if !same(r, own(a.q.Kind, r)) {
		t.Errorf("%+v: %+v", a.q, r)
	}
	if e := a.check(r); e != api.OK && a.wrong() == api.OK {
		t.Errorf("%+v: CheckAnswer returned %d", a.q, e)
	}
}

// about returns a question of the example, to which entries are added.
func about(q api.Command, more ...api.Entered) asked {
	return asked{s: flat(), l: append(more, example()...), q: q}
}

func TestP10_11Cell(t *testing.T) {
	a := about(askCell(0, 5, 6))
	answers(t, a, "cell 1 10 10")
	r := a.answer()
	if len(r.Reasons) != 440 || r.Reasons[0] != (api.Reason{At: at(0, 0), Report: 5}) || r.Reasons[439] != (api.Reason{At: at(20, 20), Report: 6}) {
		t.Error(r.Reasons)
	}
	answers(t, about(askCell(0, 6)), plainReply(askCell(0, 6), api.Reply{Places: diagonal()}))
	// A blank counts for all, and comes in the order of the day; it is no sighting itself.
	look := in(1, 9, 0, blank(7, 1, 25, 300, 500))
	answers(t, about(askCell(0, 5, 6), look), "cell 0")
	answers(t, about(askCell(0, 7), look), "error 5")
	answers(t, about(askCell(0, 5, 7), look), "error 5")
	answers(t, about(askCell(0, 5, 9)), "error 5")
	answers(t, about(askCell(0, 9)), "error 5")
	first := about(askCell(0, 5, 6), in(1, 9, 0, blank(7, 1, 25, 300, 500))).answer()
	if x := first.Reasons[440]; x != (api.Reason{At: at(20, 20), Report: 7}) || len(first.Reasons) != 441 {
		t.Error(x)
	}
	// A blank of another minute than those in which the smoke burned says nothing.
	answers(t, about(askCell(0, 5, 6), in(1, 9, 0, blank(7, 1, 31, 300, 500))), "cell 1 10 10")
	answers(t, about(askCell(0, 5, 6), in(1, 9, 0, blank(7, 1, 30, 300, 500))), "cell 0")
	// A smoke that burned longer than any one does has a cell all the same.
	late := in(2, 9, 0, sight(8, 2, 500, 1350))
	answers(t, about(askCell(0, 5, 8), late), "cell 1 10 10")
	answers(t, about(askSmokes(0), late), "smokes 2 2 5 6 1 8")
	// What is known later, or taken back, is not told.
	later := example()
	later[1].Tick = 8
	answers(t, asked{s: flat(), l: later, q: askCell(7, 5, 6)}, "error 5")
	answers(t, asked{s: flat(), l: later, q: askCell(8, 5, 6)}, "cell 1 10 10")
	answers(t, about(askCell(0, 5, 6), in(2, 2, 0, back(1))), "error 5")
}

// diagonal returns the places that the sighting 6 alone allows.
func diagonal() []api.Place {
	var out []api.Place
	for y := 1; y <= 20; y++ {
		out = append(out, at(20-y, y))
	}
	return out
}

// A check makes the wedge of a sighting narrower, and with it the cell.
func TestP10_11CellByChecks(t *testing.T) {
	a := about(askCell(0, 5))
	a.s.Service.Circles.Circles[0].Zero = span(-50, 50)
	wide := len(a.answer().Places)
	a.l = append(a.l, in(1, 7, 0, east(3, 20)))
	if narrow := len(a.answer().Places); narrow != 20 || wide <= 20 {
		t.Error(wide, narrow)
	}
}

// open returns a day in which it is open whether the sightings 1 and 2 are of one smoke: 2 can be one with 1, or with 3, but not all can.
func open(q api.Command) asked {
	return asked{s: flat(), q: q, l: []api.Entered{in(1, 1, 0, sight(1, 1, 10, 450)), in(2, 1, 0, sight(2, 2, 60, 1350)), in(1, 2, 0, sight(3, 1, 110, 450))}}
}

func TestP10_11Same(t *testing.T) {
	answers(t, about(askSame(0, 5, 6)), "yes")
	answers(t, about(askSame(0, 5, 6), in(1, 9, 0, blank(7, 1, 25, 300, 500))), "no")
	answers(t, open(askSame(0, 1, 2)), "open")
	answers(t, open(askSame(0, 1, 3)), "no")
	answers(t, about(askSame(0, 5, 9)), "error 5")
	answers(t, about(askSame(0, 5, 7), in(1, 9, 0, blank(7, 1, 25, 300, 500))), "error 5")
	// A sighting of a place off the map cannot be of any smoke.
	answers(t, about(askSame(0, 5, 6), in(1, 9, 0, sight(8, 1, 25, 2700))), "error 9")
	r := open(askSame(0, 1, 2)).answer()
	if !same(r.Verdict, api.Verdict{Answer: api.Open, Together: [][]int{{1, 2}, {3}}, Apart: [][]int{{1}, {2, 3}}}) {
		t.Error(r.Verdict)
	}
	if len(r.Joins.Fits) != 2 || len(r.Joins.Misfits) != 1 || !slices.Equal(r.Joins.Misfits[0].IDs, []int{1, 3}) {
		t.Error(r.Joins)
	}
}

func TestP10_11Smokes(t *testing.T) {
	answers(t, about(askSmokes(0)), "smokes 1 2 5 6")
	answers(t, asked{s: flat(), q: askSmokes(5)}, "smokes 0")
	answers(t, open(askSmokes(0)), "smokes 0")
	answers(t, about(askSmokes(0), in(1, 9, 0, blank(7, 1, 25, 300, 500))), "smokes 2 1 5 1 6")
	answers(t, about(askSmokes(0), in(1, 9, 0, sight(4, 1, 200, 300))), "smokes 2 1 4 2 5 6")
	answers(t, about(askSmokes(0), in(1, 9, 0, sight(8, 1, 25, 2700))), "error 9")
}

func TestP10_11Send(t *testing.T) {
	answers(t, about(askSend(0, 0)), "send 46 0 0")
	answers(t, about(askSend(40, 0)), "send 56 0 0")
	answers(t, about(askSend(1<<20, 0)), "send 1048592 0 0")
	answers(t, about(askSend(105, 0)), "send 129 0 0")
	answers(t, asked{s: flat(), q: askSend(40, 0)}, "send 0")
	answers(t, open(askSend(40, 0)), "send 0")
	// The smokes have the cells of their sets, in order: the sighting 4 alone allows all of the diagonal.
	two := about(askSend(0, 0), in(1, 9, 0, sight(4, 1, 200, 450)))
	answers(t, two, "send 426 0 1 1 0")
	r := two.answer()
	if !same(r.Sets, [][]int{{4}, {5, 6}}) || len(r.Plan.Crews) != 2 || len(r.Plan.Blazes) != 2 {
		t.Error(r.Sets, r.Plan)
	}
	two.s.Crews = nil
	answers(t, two, "send 0")
	// A cell of more than 200 places is too large for a crew.
	two.s = flat()
	two.s.Service.Circles.Circles[0].Zero = span(-300, 300)
	two.l = two.l[:1]
	answers(t, two, "error 1")
	two.q = askSmokes(0)
	answers(t, two, "smokes 1 1 4")
	answers(t, about(askSend(0, 0), in(1, 9, 0, sight(8, 1, 25, 2700))), "error 9")
}

func TestP10_11Duty(t *testing.T) {
	v := versions(t, sources()[2], sources()[1])
	for _, x := range []struct {
		day  int
		name string
		want string
	}{
		{3, "north", "duty ben"}, {0, "south", "duty ben"}, {2, "south", "duty ben"}, {4, "south", "duty"}, {3, "west", "duty"}, {10, "north", "duty"}, {9, "north", "duty"}, {400, "south", "duty"},
	} {
		answers(t, asked{s: flat(), v: v, q: askDuty(x.day, x.name)}, x.want)
	}
	v[0].Watch.Lines[1].From = 3
	answers(t, asked{s: flat(), v: v, q: askDuty(3, "south")}, "duty ann")
	answers(t, asked{s: flat(), v: v[1:], q: askDuty(9, "north")}, "error 5")
	answers(t, asked{s: flat(), q: askDuty(9, "north")}, "error 5")
	// It does not matter what else is known, or the time.
	answers(t, asked{s: flat(), v: v, l: make([]api.Entered, 641), now: 1 << 20, q: askDuty(3, "north")}, "duty ben")
}

// facts returns a source with an order that is given for just some facts.
func facts(cell, seen, age, hour, free int) string {
	return fmt.Sprintf("order hit if cell = %d and seen = %d and age = %d and hour = %d and free = %d;\n", cell, seen, age, hour, free)
}

func TestP10_11OrderFacts(t *testing.T) {
	third := in(1, 9, 0, sight(4, 1, 25, 450))
	for _, x := range []struct {
		a    asked
		want [5]int
	}{
		{asked{now: 30, q: askOrder(5, 0), l: example()}, [5]int{1, 2, 0, 0, 2}},
		{asked{now: 29, q: askOrder(6, 0), l: example()}, [5]int{1, 2, 0, 0, 2}},
		{asked{now: 0, q: askOrder(6, 0), l: example()}, [5]int{1, 2, 0, 0, 2}},
		{asked{now: 31, q: askOrder(5, 0), l: example()}, [5]int{1, 2, 1, 0, 2}},
		{asked{now: 59, q: askOrder(5, 0), l: example()}, [5]int{1, 2, 29, 0, 2}},
		{asked{now: 60, q: askOrder(5, 0), l: example()}, [5]int{1, 2, 30, 1, 2}},
		{asked{now: 1439, q: askOrder(5, 0), l: example()}, [5]int{1, 2, 1409, 23, 2}},
		{asked{now: 1440, q: askOrder(5, 0), l: example()}, [5]int{1, 2, 1410, 0, 2}},
		{asked{now: 10030, q: askOrder(5, 0), l: example()}, [5]int{1, 2, 10000, 23, 2}},
		{asked{now: 10031, q: askOrder(5, 0), l: example()}, [5]int{1, 2, 10000, 23, 2}},
		{asked{now: 14000, q: askOrder(5, 0), l: example()}, [5]int{1, 2, 10000, 17, 2}},
		{asked{now: 40, q: askOrder(5, 0), l: example()[:1]}, [5]int{20, 1, 20, 0, 2}},
		{asked{now: 40, q: askOrder(5, 0), l: append(example(), third)}, [5]int{1, 2, 10, 0, 2}},
		{asked{now: 40, q: askOrder(5, 0), l: []api.Entered{example()[0], third}}, [5]int{20, 1, 15, 0, 2}},
	} {
		a := x.a
		a.s, a.v = flat(), versions(t, facts(x.want[0], x.want[1], x.want[2], x.want[3], x.want[4]))
		answers(t, a, "order hit")
		for i := range x.want {
			other := x.want
			other[i]++
			if other[i] > 10000 {
				other[i] = 9999
			}
			a.v = versions(t, facts(other[0], other[1], other[2], other[3], other[4]))
			answers(t, a, "order")
		}
	}
	a := about(askOrder(5, 0))
	a.v = versions(t, facts(1, 2, 0, 0, 0))
	a.s.Crews = nil
	answers(t, a, "order hit")
	a.v = versions(t, facts(1, 2, 0, 0, 1))
	a.s.Crews = flat().Crews[:1]
	answers(t, a, "order hit")
}

func TestP10_11Order(t *testing.T) {
	day := func(n int) int { return 1440 * n }
	a := about(askOrder(5, 0))
	answers(t, a, "error 5")
	a.v = versions(t, "", sources()[1], sources()[3])
	for _, x := range []struct {
		now  int
		want string
	}{{0, "order"}, {day(10) - 1, "order"}, {day(10), "order send"}, {day(20) - 1, "order send"}, {day(20), "order far"}, {day(401) - 1, "order far"}, {day(401), "error 1"}, {1 << 20, "error 1"}} {
		a.now = x.now
		answers(t, a, x.want)
	}
	a.now, a.v = day(3), a.v[1:]
	answers(t, a, "error 5")
	// The order with the greatest rank is given, of several the first one.
	a.v = versions(t, "order one if free = 2;\norder two rank 3 if free = 2;\norder three rank 3 if free = 2;\n")
	answers(t, a, "order two")
	// A sighting must stand in a smoke that is proved; that comes ahead of what is in force.
	for _, id := range []int{4, 7, 9} {
		x := about(askOrder(id, 0), in(1, 9, 0, blank(7, 1, 35, 300, 500)))
		x.v = a.v
		answers(t, x, "error 5")
		x.now = 1 << 20
		answers(t, x, "error 5")
	}
	x := open(askOrder(2, 0))
	x.v = a.v
	answers(t, x, "error 5")
	x = about(askOrder(5, 0), in(1, 9, 0, sight(8, 1, 25, 2700)))
	x.v, x.now = a.v, 1<<20
	answers(t, x, "error 9")
	x = about(askOrder(4, 0), in(1, 9, 0, sight(4, 1, 200, 450)))
	x.v = versions(t, facts(20, 1, 0, 0, 2))
	answers(t, x, "order hit")
}

// questions returns a question of each kind that has an answer, and what it is asked of.
func questions(t *testing.T) []asked {
	t.Helper()
	var out []asked
	for _, q := range []api.Command{askCell(0, 5, 6), askSame(0, 5, 6), askSmokes(0), askSend(40, 0), askDuty(3, "north"), askOrder(5, 0)} {
		a := about(q, in(1, 9, 0, sight(4, 1, 200, 450)))
		a.v = versions(t, sources()[1])
		out = append(out, a)
	}
	return out
}

// What is asked is looked at first, then the setting, then the versions, then the entries.
func TestP10_11Errors(t *testing.T) {
	wrongs := []struct {
		e  api.Errno
		do func(a *asked)
	}{
		{api.ErrArg, func(a *asked) { a.q.Bytes = 1 }},
		{api.ErrArg, func(a *asked) { a.q = tick(5) }},
		{api.ErrArg, func(a *asked) { a.q = api.Command{} }},
		{api.ErrArg, func(a *asked) { a.now = -1 }},
		{api.ErrArg, func(a *asked) { a.now = 1<<20 + 1 }},
		{api.ErrTwice, trailTwiceIn},
		{api.ErrNone, func(a *asked) { a.s.Service.Circles.Circles[0].At = at(9, 9) }},
		{api.ErrLimit, func(a *asked) { a.v = make([]api.Version, 21) }},
		{api.ErrForm, func(a *asked) { a.v[0].Watch.Orders[0].Name = "on" }},
		{api.ErrTwice, func(a *asked) { a.l = append(a.l, a.l[0]) }},
	}
	ranks := []int{0, 0, 0, 0, 0, 1, 1, 2, 2, 3}
	for i := range questions(t) {
		for k, x := range wrongs {
			for m, y := range wrongs {
				if ranks[k] > ranks[m] || ranks[k] == 2 && ranks[m] == 2 && m != k {
					continue
				}
				a := questions(t)[i]
				y.do(&a)
				x.do(&a)
				want := x.e
				if ranks[k] == 1 && ranks[m] == 1 {
					want = season.CheckSetting(a.s)
				}
				if ranks[k] == 3 && a.q.Kind == api.CoDuty {
					want = api.OK
				}
				r := a.answer()
				if r.Err != want || want != api.OK && !same(r, api.Reply{Err: want}) {
					t.Error(a.q, k, m, r.Err, "instead of", want)
				}
			}
		}
	}
	for _, c := range append(wrongCommands(), one()[:9]...) {
		a := about(c)
		answers(t, a, "error 1")
		if e := a.check(api.Reply{Err: api.ErrArg}); e != api.ErrArg {
			t.Error(c, e)
		}
	}
}

func trailTwiceIn(a *asked) { trailTwice(&a.s) }

// All errors of entries are errors of an answer, but for CoDuty.
func TestP10_11ErrorsOfEntries(t *testing.T) {
	for _, x := range []struct {
		l []api.Entered
		e api.Errno
	}{
		{make([]api.Entered, 641), api.ErrLimit}, {[]api.Entered{in(3, 1, 0, back(1))}, api.ErrArg}, {[]api.Entered{in(1, 1, 0, back(1)), in(1, 1, 0, back(1))}, api.ErrTwice},
	} {
		for _, a := range questions(t) {
			a.l = x.l
			want := x.e
			if a.q.Kind == api.CoDuty {
				want = api.OK
			}
			if r := a.answer(); r.Err != want || a.check(r) != api.OK {
				t.Error(a.q, r.Err, "instead of", want)
			}
		}
	}
}

func TestP10_11Random(t *testing.T) {
	r := random(16)
	for range 6000 {
		a := randomAsked(r)
		if got, want := a.answer(), plainAnswer(a); !same(got, want) {
			t.Fatalf("%+v: %+v instead of %+v", a, got, want)
		}
	}
}
