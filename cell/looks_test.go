package cell_test

import (
	"math"
	"slices"
	"testing"

	"firetower/api"
	"firetower/cell"
)

// exampleLook returns the look of the chapter's examples.
func exampleLook() api.Look {
	return api.Look{Tower: 2, Circle: 2, Tick: 35, From: 1300, To: 1400, Slack: 1}
}

func TestP6_8BehindOfExamples(t *testing.T) {
	s := example()
	b, l := told()
	look := func(from, to, slack, tick int) api.Look {
		return api.Look{Tower: 2, Circle: 2, Tick: tick, From: from, To: to, Slack: slack}
	}
	for _, x := range []struct {
		l    []api.Report
		x    api.Look
		want api.Found
	}{
		{l[:1], exampleLook(), api.Found{Seen: 1, Blank: 19}},
		{l[:1], look(1350, 1350, 1, 35), api.Found{Seen: 1, Blank: 20}},
		{l[:1], look(1351, 1400, 1, 35), api.Found{Seen: 1, Blank: 20}},
		{l[:1], look(1352, 1400, 1, 35), api.Found{Blank: 20}},
		{l[:1], look(1349, 1351, 1, 35), api.Found{Seen: 1, Blank: 19}},
		{l[:1], look(1350, 1351, 1, 35), api.Found{Seen: 1, Blank: 20}},
		{l[:1], look(950, 1350, 1, 35), api.Found{Seen: 9, Blank: 13}},
		{l[:1], look(900, 1798, 1, 50), api.Found{Seen: 20, Blank: 1}},
		{l[:1], look(900, 1798, 1, 51), api.Found{Blank: 20}},
		{l[:1], look(900, 1798, 1, 9), api.Found{Blank: 20}},
		{l, look(900, 1798, 1, 35), api.Found{}},
		{nil, look(901, 1799, 1, 35), api.Found{Seen: 440, Blank: 41}},
	} {
		if got, e := cell.Behind(s, b, x.l, x.x); got != x.want || e != api.OK {
			t.Error(x, got, e)
		}
	}
}

// wide returns a service whose circle has a zero from -7 to 12 at the minute 60.
func wide() api.Service {
	s := example()
	s.Circles.Circles[0].Zero, s.Circles.Circles[0].Drift = span(-2, 7), 5
	return s
}

func TestP6_8OpeningOfLooks(t *testing.T) {
	b, l := told()
	for _, x := range []struct {
		from, to, slack int
		e               api.Errno
	}{
		{0, 875, 3, api.OK}, {0, 876, 3, api.ErrWide}, {0, 900, 3, api.ErrWide}, {3599, 874, 3, api.OK}, {3599, 875, 3, api.ErrWide},
		{0, 681, 100, api.OK}, {0, 682, 100, api.ErrWide}, {5, 5, 100, api.OK}, {0, 901, 3, api.ErrArg}, {5, 4, 3, api.ErrArg},
	} {
		look := api.Look{Tower: 1, Circle: 1, Tick: 60, From: x.from, To: x.to, Slack: x.slack}
		if got, e := cell.Behind(wide(), b, l[:1], look); e != x.e || e != api.OK && got != (api.Found{}) {
			t.Error(x, got, e)
		}
	}
}

func TestP6_8Behind(t *testing.T) {
	r := random(30)
	var valid, tooWide, both int
	for range 500 {
		w := randomWorld(r, 12)
		l := w.mixed(r, 3)
		x := w.anyLook(r)
		got, e := cell.Behind(w.s, w.b, l, x)
		if wideOpening(w.s, x) > 900 {
			tooWide++
			if got != (api.Found{}) || e != api.ErrWide {
				t.Fatal(w.s, x, got, e)
			}
			continue
		}
		valid++
		want := plainBehind(w.s, w.b, plainCell(w.s, w.b, l), x)
		if got != want || e != api.OK {
			t.Fatal(w.s, w.b, l, x, got, e, "instead of", want)
		}
		if want.Seen > 0 && want.Blank > 0 {
			both++
		}
	}
	counted(t, "looks", valid, 200)
	counted(t, "looks that are too wide", tooWide, 30)
	counted(t, "looks that find something", both, 50)
}

// badLook is a look at the rich service, and its error.
type badLook struct {
	x api.Look
	e api.Errno
}

// wrongLooks returns looks whose blanks are not valid, and one that is too wide.
func wrongLooks() []badLook {
	out := []badLook{{api.Look{Tower: 2, Circle: 2, Tick: 35, From: 100, To: 999, Slack: 1}, api.ErrWide}}
	for _, c := range slices.Concat(wrongSectors(), asBlanks(wrongStands()), asBlanks(eachNumber())) {
		r := richReports()[0]
		c.do(&r)
		if r.ID == richReports()[0].ID { // looks have none
			out = append(out, badLook{api.Look{Tower: r.Tower, Circle: r.Circle, Tick: r.Tick, From: r.From, To: r.To, Slack: r.Slack}, c.e})
		}
	}
	return out
}

func TestP6_8ErrorsOfLooks(t *testing.T) {
	b, _ := told()
	l := wrongLooks()
	for i, x := range l {
		if got, e := cell.Behind(rich(), b, richReports(), x.x); got != (api.Found{}) || e != x.e {
			t.Error("Behind:", x, got, e)
		}
		other := l[(i+1)%len(l)].x
		for _, looks := range [][]api.Look{{x.x}, {x.x, other}, {exampleLook(), x.x}, {exampleLook(), x.x, other}, {exampleLook(), exampleLook(), x.x, exampleLook()}} {
			if n, e := cell.Best(rich(), b, richReports(), looks); n != 0 || e != x.e {
				t.Error("Best:", looks, n, e, "instead of", x.e)
			}
		}
	}
	// The error of the blank comes before that of the opening.
	late := l[0].x
	late.Tick = 1001
	if got, e := cell.Behind(rich(), b, richReports(), late); got != (api.Found{}) || e != api.ErrArg {
		t.Error(got, e)
	}
}

func TestP6_8LooksHaveTheID1(t *testing.T) {
	b, l := told()
	l[0].ID = 1
	if got, e := cell.Behind(example(), b, l[:1], exampleLook()); got != (api.Found{Seen: 1, Blank: 19}) || e != api.OK {
		t.Error(got, e)
	}
}

func TestP6_8BestOfExamples(t *testing.T) {
	s := example()
	b, l := told()
	part, late, none := exampleLook(), exampleLook(), exampleLook()
	part.From, part.To = 950, 1350 // 9 or 13 places
	late.Tick = 60                 // 0 or 20 places
	none.Tower = math.MaxInt
	for _, x := range []struct {
		looks []api.Look
		want  int
		e     api.Errno
	}{
		{[]api.Look{late, exampleLook(), part}, 2, api.OK},
		{[]api.Look{late, exampleLook(), exampleLook()}, 1, api.OK},
		{[]api.Look{late, late}, 0, api.OK},
		{[]api.Look{part, exampleLook()}, 0, api.OK},
		{[]api.Look{late}, 0, api.OK},
		{slices.Repeat([]api.Look{late}, 40), 0, api.OK},
		{append(slices.Repeat([]api.Look{late}, 39), part), 39, api.OK},
		{slices.Repeat([]api.Look{late}, 41), 0, api.ErrLimit},
		{slices.Repeat([]api.Look{none}, 41), 0, api.ErrLimit},
		{nil, 0, api.ErrNone},
		{[]api.Look{}, 0, api.ErrNone},
		{append(slices.Repeat([]api.Look{late}, 39), none), 0, api.ErrNone},
	} {
		if got, e := cell.Best(s, b, l[:1], x.looks); got != x.want || e != x.e {
			t.Error(x, got, e)
		}
	}
	// Of an empty cell all looks leave the same.
	if got, e := cell.Best(s, b, l, []api.Look{late, part}); got != 0 || e != api.OK {
		t.Error(got, e)
	}
}

func TestP6_8Best(t *testing.T) {
	r := random(31)
	later := 0
	for range 300 {
		w := randomWorld(r, 10)
		l := w.mixed(r, 2)
		places := plainCell(w.s, w.b, l)
		var looks []api.Look
		var left []int
		for range 1 + r.IntN(8) {
			x := w.look(r)
			f := plainBehind(w.s, w.b, places, x)
			looks, left = append(looks, x), append(left, max(f.Seen, f.Blank))
		}
		want := slices.Index(left, slices.Min(left))
		if got, e := cell.Best(w.s, w.b, l, looks); got != want || e != api.OK {
			t.Fatal(w.s, w.b, l, looks, got, e, "instead of", want, left)
		}
		if want > 0 {
			later++
		}
	}
	counted(t, "best looks that are not the first", later, 50)
}
