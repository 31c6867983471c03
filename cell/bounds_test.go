package cell_test

import (
	"math"
	"slices"
	"testing"

	"firetower/api"
	"firetower/cell"
	"firetower/half"
)

func TestP6_6HalvesOfExamples(t *testing.T) {
	b, l := told()
	h, ids, e := cell.Halves(example(), b, l)
	want := []api.Half{{A: 449, B: -450}, {A: -450, B: 449}, {A: 450, B: 449, C: 9000}, {A: -449, B: -450, C: -8980}}
	if !slices.Equal(h, want) || !slices.Equal(ids, []int{5, 5, 6, 6}) || e != api.OK {
		t.Error(h, ids, e)
	}
	h, ids, e = cell.Halves(example(), b, []api.Report{l[2], l[1], l[0]})
	if !slices.Equal(h, slices.Concat(want[2:], want[:2])) || !slices.Equal(ids, []int{6, 6, 5, 5}) || e != api.OK {
		t.Error(h, ids, e)
	}
	for _, l := range [][]api.Report{nil, l[2:]} {
		if h, ids, e := cell.Halves(example(), b, l); len(h) != 0 || len(ids) != 0 || e != api.OK {
			t.Error(h, ids, e)
		}
	}
}

// sights returns so many sightings, and blanks up to 24 reports.
func sights(n int) []api.Report {
	_, l := told()
	var out []api.Report
	for i := range 24 {
		r := l[i%2]
		if i >= n {
			r = l[2]
		}
		r.ID = 24 - i
		out = append(out, r)
	}
	return out
}

func TestP6_6AtMost40Halves(t *testing.T) {
	b, _ := told()
	if h, ids, e := cell.Halves(example(), b, sights(20)); len(h) != 40 || len(ids) != 40 || e != api.OK {
		t.Error(h, ids, e)
	}
	if bound, e := cell.Bound(example(), b, sights(20), api.Form{X: 1}); bound.Value.Den == 0 || e != api.OK {
		t.Error(bound, e)
	}
	for _, n := range []int{21, 24} {
		if h, ids, e := cell.Halves(example(), b, sights(n)); len(h) != 0 || len(ids) != 0 || e != api.ErrLimit {
			t.Error(h, ids, e)
		}
		for _, f := range []api.Form{{X: 1}, {X: 1001}} {
			if bound, e := cell.Bound(example(), b, sights(n), f); bound.Scale != 0 || len(bound.Uses) != 0 || e != api.ErrLimit {
				t.Error(bound, e)
			}
		}
	}
}

func TestP6_6Halves(t *testing.T) {
	r := random(20)
	for range 300 {
		w := randomWorld(r, 49)
		l := w.mixed(r, 20)
		want, ids := plainHalves(w.s, l)
		if h, n, e := cell.Halves(w.s, w.b, l); !slices.Equal(h, want) || !slices.Equal(n, ids) || e != api.OK {
			t.Fatal(w.s, l, h, n, e, "instead of", want, ids)
		}
	}
}

func TestP6_6Bound(t *testing.T) {
	r := random(21)
	var bounds, clashes int
	for range 400 {
		w := randomWorld(r, 49)
		l := w.mixed(r, 5)
		h, _ := plainHalves(w.s, l)
		f := randomForm(r)
		best, e := half.Best(h, f)
		got, err := cell.Bound(w.s, w.b, l, f)
		if err != e || got.Value != best.Value {
			t.Fatal(w.s, l, f, got, err, "instead of", best, e)
		}
		if e == api.OK {
			mustBe(t, half.CheckBest(h, f, got), api.OK, w.s, l, f, got)
			bounds++
		} else {
			mustBe(t, e, api.ErrClash, w.s, l, f)
			clashes++
		}
	}
	counted(t, "bounds", bounds, 100)
	counted(t, "empty polygons", clashes, 50)
}

func TestP6_6ErrorsOfBound(t *testing.T) {
	b, l := told()
	// The report 8 looks away from the others.
	away := l[1]
	away.ID, away.From = 8, 100
	for _, x := range []struct {
		l []api.Report
		f api.Form
		e api.Errno
	}{
		{l, api.Form{X: 1}, api.OK}, {l[:2], api.Form{X: -1000, Y: 1000}, api.OK}, {nil, api.Form{}, api.OK},
		{l, api.Form{X: 1001}, api.ErrArg}, {l, api.Form{Y: -1001}, api.ErrArg}, {nil, api.Form{X: math.MinInt}, api.ErrArg},
		{append(slices.Clone(l), away), api.Form{X: 1}, api.ErrClash}, {append(slices.Clone(l), away), api.Form{X: 1001}, api.ErrArg},
	} {
		got, e := cell.Bound(example(), b, x.l, x.f)
		if e != x.e || (got.Scale == 0) != (e != api.OK) || (len(got.Uses) == 0) != (got.Scale == 0 || x.f == api.Form{}) {
			t.Error(x, got, e)
		}
	}
}

func TestP6_7MostOfExamples(t *testing.T) {
	b, l := told()
	for _, x := range []struct {
		l    []api.Report
		f    api.Form
		want int
		at   api.Place
	}{
		{l[:2], api.Form{Y: 1}, 10, at(10, 10)},
		{l[:1], api.Form{X: 1, Y: -2}, -1, at(1, 1)},
		{l[:1], api.Form{X: 1, Y: -1}, 0, at(1, 1)},
		{l[:1], api.Form{}, 0, at(1, 1)},
		{l[:1], api.Form{X: 1000, Y: 1000}, 40000, at(20, 20)},
		{nil, api.Form{X: 1}, 20, at(20, 0)},
		{nil, api.Form{X: -1}, 0, at(0, 0)},
		{nil, api.Form{Y: 1}, 20, at(0, 20)},
		{nil, api.Form{X: -1000, Y: -1000}, 0, at(0, 0)},
		{nil, api.Form{X: 1, Y: 1}, 40, at(20, 20)},
		{nil, api.Form{X: -1, Y: 1}, 20, at(0, 20)},
		{l[:2], api.Form{X: -1000, Y: -7}, -10070, at(10, 10)},
	} {
		if n, p, e := cell.Most(example(), b, x.l, x.f); n != x.want || p != x.at || e != api.OK {
			t.Error(x, n, p, e)
		}
	}
}

func TestP6_7ErrorsOfMostAndHull(t *testing.T) {
	b, l := told()
	for _, f := range []api.Form{{X: 1001}, {X: -1001}, {Y: 1001}, {Y: -1001}, {X: math.MaxInt}, {Y: math.MinInt}} {
		for _, l := range [][]api.Report{nil, l[:2], l} {
			if n, p, e := cell.Most(example(), b, l, f); n != 0 || p != at(0, 0) || e != api.ErrArg {
				t.Error(f, l, n, p, e)
			}
		}
	}
	if n, p, e := cell.Most(example(), b, l, api.Form{X: 1}); n != 0 || p != at(0, 0) || e != api.ErrClash {
		t.Error(n, p, e)
	}
	if h, e := cell.Hull(example(), b, l); len(h) != 0 || e != api.ErrClash {
		t.Error(h, e)
	}
}

func TestP6_7HullOfExamples(t *testing.T) {
	b, l := told()
	for _, x := range []struct {
		l    []api.Report
		want []api.Half
	}{
		{l[:2], []api.Half{{A: -1, C: -10}, {A: 1, C: 10}, {B: -1, C: -10}, {B: 1, C: 10}}},
		{l[:1], []api.Half{{A: 19, B: -19}, {A: -19, B: 19}, {A: -19, B: -19, C: -38}, {A: 19, B: 19, C: 760}}},
		{nil, []api.Half{{B: -20}, {A: 20, C: 400}, {B: 20, C: 400}, {A: -20}}},
	} {
		if h, e := cell.Hull(example(), b, x.l); !slices.Equal(h, x.want) || e != api.OK {
			t.Error(h, e, "instead of", x.want)
		}
	}
}

func TestP6_7MostAndHull(t *testing.T) {
	r := random(22)
	var empty, several int
	for range 300 {
		w := randomWorld(r, 12)
		l := w.mixed(r, 5)
		f := randomForm(r)
		places := plainCell(w.s, w.b, l)
		n, p, e := cell.Most(w.s, w.b, l, f)
		h, err := cell.Hull(w.s, w.b, l)
		if len(places) == 0 {
			empty++
			mustBe(t, e, api.ErrClash, w.s, w.b, l)
			mustBe(t, err, api.ErrClash, w.s, w.b, l)
			continue
		}
		if most, where := plainMost(places, f); n != most || p != where || e != api.OK {
			t.Fatal(w.s, w.b, l, f, n, p, e, "instead of", most, where)
		}
		if want, _ := half.Hull(places); !slices.Equal(h, want) || err != api.OK {
			t.Fatal(w.s, w.b, l, h, err, "instead of", want)
		}
		if len(places) > 1 {
			several++
		}
	}
	counted(t, "empty cells", empty, 30)
	counted(t, "cells of several places", several, 100)
}
