package season_test

import (
	"slices"
	"testing"

	"firetower/api"
	"firetower/season"
)

// east is a reading of a mark in the east by the circle 1 with the zero 0.
func east(id, tick int) api.Entry { return mark(id, 1, tick, at(10, 0), 0) }

// drift is one with the zero 50.
func drift(id, tick int) api.Entry { return mark(id, 1, tick, at(10, 0), 50) }

// spots returns where entries stand.
func spots(l []api.Entered) [][2]int {
	var out [][2]int
	for _, x := range l {
		out = append(out, [2]int{x.Tower, x.Line})
	}
	return out
}

// folded fails a test unless entries fold to a day with some reports and checks, by their IDs, and some of them are refused.
func folded(t *testing.T, s api.Setting, l []api.Entered, known int, reports, checks []int, refused [][2]int) {
	t.Helper()
	d, r, e := season.Fold(s, l, known)
	var gotReports, gotChecks []int
	for _, x := range d.Reports {
		gotReports = append(gotReports, x.ID)
	}
	for _, x := range d.Service.Circles.Checks {
		gotChecks = append(gotChecks, x.ID)
	}
	if e != api.OK || !same(gotReports, reports) || !same(gotChecks, checks) || !same(spots(r), refused) {
		t.Error("reports", gotReports, "checks", gotChecks, "refused", spots(r), e, "instead of", reports, checks, refused)
	}
	without := s
	without.Service.Circles.Checks = d.Service.Circles.Checks
	if !same(d.Service, without.Service) || d.Rise != s.Rise || d.Long != s.Long {
		t.Error(d)
	}
}

func TestP10_4Fold(t *testing.T) {
	l := []api.Entered{
		in(2, 1, 30, sight(6, 2, 30, 1350)), in(1, 2, 20, east(3, 10)), in(1, 1, 20, sight(5, 1, 20, 450)), in(1, 3, 20, drift(4, 10)),
		in(1, 4, 25, sight(5, 1, 21, 450)), in(1, 5, 25, sight(9, 2, 21, 450)), in(2, 2, 40, back(1)),
	}
	refused := [][2]int{{1, 3}, {1, 4}, {1, 5}}
	folded(t, flat(), l, 39, []int{5, 6}, []int{3}, refused)
	folded(t, flat(), l, 40, []int{5}, []int{3}, refused)
	folded(t, flat(), l, 1<<63-1, []int{5}, []int{3}, refused)
	folded(t, flat(), l, 29, []int{5}, []int{3}, refused)
	folded(t, flat(), l, 24, []int{5}, []int{3}, refused[:1])
	folded(t, flat(), l, 20, []int{5}, []int{3}, refused[:1])
	folded(t, flat(), l, 19, nil, nil, nil)
	folded(t, flat(), l, -1<<63, nil, nil, nil)
	folded(t, flat(), nil, 5, nil, nil, nil)
	d, _, _ := season.Fold(flat(), l, 39)
	if d.Reports[0] != (api.Report{ID: 5, Kind: api.ReSight, Tower: 1, Circle: 1, Tick: 20, From: 450, Slack: 1}) || d.Reports[1].Tower != 2 {
		t.Error(d.Reports)
	}
	if d.Service.Circles.Checks[0] != l[1].Entry.Check {
		t.Error(d.Service.Circles.Checks)
	}
}

// Lines come by tower and then line, whatever the order of the towers is; all marks come ahead of all reports.
func TestP10_4Order(t *testing.T) {
	s := posts(8)
	var l []api.Entered
	var want []int
	for tower := 1; tower <= 7; tower++ {
		l = append([]api.Entered{in(tower, 10*tower, 5, sight(tower, tower, 20, 450))}, l...)
		want = append(want, tower)
	}
	folded(t, s, l, 5, want, nil, nil)
	more := append(slices.Clone(l), in(1, 80, 5, sight(9, 1, 20, 450)), in(8, 1, 5, sight(10, 8, 20, 450)))
	folded(t, s, more, 5, []int{1, 9, 2, 3, 4, 5, 6}, nil, [][2]int{{7, 70}, {8, 1}})
	// A mark that stands behind reports counts for them: the circle 1 does not know its zero well.
	s = flat()
	s.Service.Circles.Circles[0].Zero = span(-300, 300)
	d, _, e := season.Fold(s, []api.Entered{in(1, 1, 0, sight(5, 1, 20, 450)), in(1, 9, 0, east(3, 20)), in(2, 1, 0, drift(2, 20))}, 0)
	if e != api.OK || len(d.Service.Circles.Checks) != 1 || d.Service.Circles.Checks[0].ID != 3 || len(d.Reports) != 1 {
		t.Error(d.Service.Circles.Checks, d.Reports, e)
	}
}

// Marks are refused if circle.Check, or circle.Clashes says something of them.
func TestP10_4RefusedMarks(t *testing.T) {
	slack := east(4, 10)
	slack.Check.Slack = 0
	for _, x := range []api.Entry{
		slack, east(3, 12), mark(4, 9, 10, at(10, 0), 0), mark(4, 0, 10, at(10, 0), 0), mark(4, 1, 10, at(0, 0), 0), mark(4, 1, 1001, at(10, 0), 0),
		drift(4, 10), drift(4, 500), mark(4, 2, 10, at(10, 0), 0), mark(4, 1, 10, at(10, 0), 2000),
	} {
		folded(t, flat(), []api.Entered{in(1, 1, 0, east(3, 10)), in(1, 2, 0, x), in(1, 3, 0, east(5, 11))}, 0, nil, []int{3, 5}, [][2]int{{1, 2}})
	}
	// The first one of two that contradict each other stands, if the zero is not known before.
	s := flat()
	s.Service.Circles.Circles[0].Zero = span(-90, 90)
	folded(t, s, []api.Entered{in(1, 3, 0, drift(4, 10)), in(1, 1, 0, east(3, 10)), in(2, 1, 0, drift(6, 10))}, 0, nil, []int{3}, [][2]int{{1, 3}, {2, 1}})
	folded(t, s, []api.Entered{in(1, 3, 0, east(3, 10)), in(1, 1, 0, drift(4, 10)), in(2, 1, 0, drift(6, 10))}, 0, nil, []int{4, 6}, [][2]int{{1, 3}})
	// There are at most 60 checks.
	var l []api.Entered
	for i := range 61 {
		l = append(l, in(1, i+1, 0, east(100-i, 10)))
	}
	d, refused, e := season.Fold(flat(), l, 0)
	if e != api.OK || len(d.Service.Circles.Checks) != 60 || !same(refused, l[60:]) {
		t.Error(len(d.Service.Circles.Checks), refused, e)
	}
}

// Reports are refused if join.Check says something of the day with them.
func TestP10_4RefusedReports(t *testing.T) {
	slack := sight(7, 1, 20, 450)
	slack.Report.Slack = 0
	for _, x := range []api.Entry{
		slack, sight(5, 1, 30, 450), blank(5, 1, 20, 450, 500), sight(7, 2, 20, 450), sight(7, 9, 20, 450), sight(7, 0, 20, 450), sight(7, 1, 1001, 450),
		blank(7, 1, 20, 0, 901), blank(7, 1, 20, 500, 450), blank(7, 2, 20, 450, 500),
	} {
		folded(t, flat(), []api.Entered{in(1, 1, 0, sight(5, 1, 20, 450)), in(1, 2, 0, x), in(1, 3, 0, sight(6, 1, 20, 450))}, 0, []int{5, 6}, nil, [][2]int{{1, 2}})
	}
	var l []api.Entered
	for i := range 9 {
		l = append(l, in(1, i+1, 0, sight(i+1, 1, 20, 450)))
	}
	for i := range 12 {
		l = append(l, in(1, i+10, 0, blank(i+10, 1, 20, 450, 500)))
	}
	folded(t, flat(), l, 0, []int{1, 2, 3, 4, 5, 6, 7, 10, 11, 12, 13, 14, 15, 16, 17, 18, 19}, nil, [][2]int{{1, 8}, {1, 9}, {1, 20}, {1, 21}})
	// Refused marks come ahead of refused reports.
	l = []api.Entered{in(1, 1, 0, slack), in(1, 2, 0, mark(4, 9, 10, at(10, 0), 0)), in(2, 1, 0, drift(4, 10)), in(2, 2, 0, slack)}
	folded(t, flat(), l, 0, nil, nil, [][2]int{{1, 2}, {2, 1}, {1, 1}, {2, 2}})
}

// What is taken back does not count; what takes it back has to be known, to be of the same book, and cannot be taken back.
func TestP10_4Back(t *testing.T) {
	five, six := in(1, 1, 10, sight(5, 1, 20, 450)), in(2, 1, 10, sight(6, 2, 30, 1350))
	for _, x := range []struct {
		more    []api.Entered
		reports []int
	}{
		{nil, []int{5, 6}},
		{[]api.Entered{in(1, 2, 10, back(1))}, []int{6}},
		{[]api.Entered{in(1, 2, 5, back(1))}, []int{6}},
		{[]api.Entered{in(1, 2, 12, back(1))}, []int{6}},
		{[]api.Entered{in(1, 2, 13, back(1))}, []int{5, 6}},
		{[]api.Entered{in(2, 2, 10, back(1))}, []int{5}},
		{[]api.Entered{in(2, 2, 10, back(2))}, []int{5, 6}},
		{[]api.Entered{in(1, 2, 10, back(1)), in(1, 3, 10, back(2))}, []int{6}},
		{[]api.Entered{in(1, 2, 10, back(1)), in(1, 3, 10, back(1)), in(2, 3, 10, back(1))}, nil},
		{[]api.Entered{in(1, 2, 10, back(7)), in(2, 7, 10, back(80))}, []int{5, 6}},
	} {
		folded(t, flat(), append(x.more, six, five), 12, x.reports, nil, nil)
	}
	folded(t, flat(), []api.Entered{in(1, 2, 10, east(3, 10)), in(1, 1, 10, back(2)), in(1, 3, 10, drift(4, 10))}, 12, nil, nil, [][2]int{{1, 3}})
}

func TestP10_4Errors(t *testing.T) {
	right := example()
	many := func(n int) []api.Entered {
		var out []api.Entered
		for i := range n {
			out = append(out, in(i/80+1, i%80+1, 5, back(1)))
		}
		return out
	}
	wrong, twice := in(1, 0, 0, back(1)), right[0]
	type list []api.Entered
	for i, x := range []struct {
		l list
		e api.Errno
	}{
		{right, api.OK}, {many(160), api.OK}, {make(list, 641), api.ErrLimit}, {make(list, 640), api.ErrArg}, {many(641), api.ErrLimit},
		{append(right, wrong), api.ErrArg}, {append(right, twice), api.ErrTwice}, {append(right, twice, wrong), api.ErrTwice},
		{append(right, wrong, twice), api.ErrArg}, {append(right, in(1, 1, -1, back(1))), api.ErrArg}, {append(right, in(1, 1, 9, back(1))), api.ErrTwice},
		{append(right, in(1, 1, 9, back(0))), api.ErrArg}, {append(right, in(2, 80, 1<<20, back(1))), api.OK},
		{append(right, in(3, 1, 1, back(1))), api.ErrArg}, {append(right, in(0, 1, 1, back(1))), api.ErrArg}, {append(right, in(-1, 1, 1, back(1))), api.ErrArg},
	} {
		for _, known := range []int{5, -1, 1 << 20} {
			d, refused, e := season.Fold(flat(), x.l, known)
			if e != x.e || e != api.OK && (!zero(d) || len(refused) > 0) {
				t.Error(i, known, e, "instead of", x.e)
			}
		}
	}
	if _, _, e := season.Fold(posts(8), many(640), 5); e != api.OK {
		t.Error(e)
	}
	for _, n := range outside(1, 80) {
		if _, _, e := season.Fold(flat(), []api.Entered{in(1, n, 1, back(1))}, 5); e != api.ErrArg {
			t.Error(n, e)
		}
	}
	for _, n := range outside(0, 1<<20) {
		if _, _, e := season.Fold(flat(), []api.Entered{in(1, 1, n, back(1))}, 5); e != api.ErrArg {
			t.Error(n, e)
		}
	}
	for _, x := range wrongEntries() {
		if _, _, e := season.Fold(flat(), []api.Entered{in(1, 1, 1, x)}, 5); e != api.ErrArg {
			t.Error(x, e)
		}
	}
}

func TestP10_4Random(t *testing.T) {
	r := random(4)
	reports, checks, out := 0, 0, 0
	for range 3000 {
		a := randomAsked(r)
		known := r.IntN(35)
		d, refused, e := season.Fold(a.s, a.l, known)
		mustBe(t, e, plainEntries(a.s, a.l), a.l)
		if e != api.OK {
			continue
		}
		want, left := plainFold(a.s, a.l, known)
		if !same(d, want) || !same(refused, left) {
			t.Fatalf("%+v %d: %+v %+v instead of %+v %+v", a.l, known, d, refused, want, left)
		}
		reports, checks, out = reports+len(d.Reports), checks+len(d.Service.Circles.Checks), out+len(refused)
	}
	counted(t, "reports", reports, 3000)
	counted(t, "checks", checks, 400)
	counted(t, "entries that are refused", out, 1000)
}

// Neither the order of entries, nor what is taken back or takes back, nor what comes to be known later matters.
func TestP10_18OneBook(t *testing.T) {
	r := random(5)
	fewer, taken := 0, 0
	for range 3000 {
		a := randomAsked(r)
		known := r.IntN(35)
		d, refused, e := season.Fold(a.s, a.l, known)
		if e != api.OK {
			continue
		}
		again := func(what string, l []api.Entered) {
			x, left, e := season.Fold(a.s, l, known)
			if e != api.OK || !same(x, d) || !same(left, refused) {
				t.Fatalf("%s: %+v %+v %d: %+v instead of %+v", what, a.l, l, known, x, d)
			}
			fewer += len(a.l) - len(l)
		}
		other := slices.Clone(a.l)
		r.Shuffle(len(other), func(i, j int) { other[i], other[j] = other[j], other[i] })
		again("another order", other)
		again("what counts", slices.DeleteFunc(slices.Clone(other), func(x api.Entered) bool { return !plainCounts(x, a.l, known) }))
		again("what is known", slices.DeleteFunc(slices.Clone(other), func(x api.Entered) bool { return x.Tick > known }))
		for _, x := range a.l {
			if x.Tick > known || x.Entry.Kind == api.EnBack || plainCounts(x, a.l, known) {
				continue
			}
			again("without one that is taken back", slices.DeleteFunc(slices.Clone(other), func(y api.Entered) bool {
				return y.Tower == x.Tower && (y.Line == x.Line || y.Entry.Kind == api.EnBack && y.Entry.Line == x.Line)
			}))
			taken++
		}
	}
	counted(t, "entries that are taken back", taken, 300)
	counted(t, "entries that do not matter", fewer, 5000)
}
