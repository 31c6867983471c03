package cell_test

import (
	"math"
	"slices"
	"testing"

	"firetower/api"
	"firetower/cell"
)

func TestP6_9Examples(t *testing.T) {
	b, l := told()
	x, e := cell.New(example(), b)
	mustBe(t, e, api.OK)
	if len(x.Reports()) != 0 || !slices.Equal(x.Cell(), allPlaces(example().Country.Map)) {
		t.Error(x.Reports(), x.Cell())
	}
	why := func(p api.Place, want int) {
		t.Helper()
		if id, is := x.Why(p); id != want || is != (want != 0) {
			t.Error(p, id, is, "instead of", want)
		}
	}
	why(at(20, 20), 0)
	for _, r := range l {
		mustBe(t, x.Put(r), api.OK, r)
	}
	if !slices.Equal(x.Reports(), l) || len(x.Cell()) != 0 {
		t.Error(x.Reports(), x.Cell())
	}
	why(at(10, 10), 7)
	why(at(20, 20), 6)
	why(at(0, 0), 5)
	mustBe(t, x.Take(5), api.OK)
	why(at(0, 0), 6)
	mustBe(t, x.Put(l[0]), api.OK)
	mustBe(t, x.Take(7), api.OK)
	if want := []api.Report{l[1], l[0]}; !slices.Equal(x.Reports(), want) || !slices.Equal(x.Cell(), []api.Place{at(10, 10)}) {
		t.Error(x.Reports(), x.Cell())
	}
	why(at(0, 0), 6)
	why(at(0, 20), 5)
	why(at(10, 10), 0)
	for _, p := range []api.Place{at(21, 0), at(0, 21), at(-1, 0), at(0, -1), at(48, 48), at(math.MaxInt, 5), at(5, math.MinInt)} {
		why(p, 0)
	}
	mustBe(t, x.Take(7), api.ErrNone)
	mustBe(t, x.Take(0), api.ErrNone)
	mustBe(t, x.Take(math.MinInt), api.ErrNone)
	mustBe(t, x.Take(5), api.OK)
	mustBe(t, x.Take(6), api.OK)
	if len(x.Reports()) != 0 || len(x.Cell()) != 441 {
		t.Error(x.Reports(), x.Cell())
	}
}

func TestP6_9ErrorsOfNew(t *testing.T) {
	b, _ := told()
	for _, x := range wrongServices() {
		s := rich()
		x.do(&s)
		for _, b := range []api.Burn{b, {From: -1}} {
			if y, e := cell.New(s, b); y != nil || e != x.e {
				t.Error(x.name, y, e)
			}
		}
	}
	for _, b := range wrongBurns() {
		if y, e := cell.New(rich(), b); y != nil || e != api.ErrArg {
			t.Error(b, y, e)
		}
	}
}

// full returns a smoke of the rich service with so many reports.
func full(n int) *cell.Smoke {
	b, _ := told()
	x, _ := cell.New(rich(), b)
	for _, r := range many(n) {
		x.Put(r)
	}
	return x
}

func TestP6_9ErrorsOfPut(t *testing.T) {
	for _, n := range []int{1, 23} {
		x := full(n)
		for _, c := range wrongReports() {
			r := richReports()[0]
			r.ID = 31
			c.do(&r)
			mustBe(t, x.Put(r), c.e, c.name)
		}
		twice := many(1)[0]
		mustBe(t, x.Put(twice), api.ErrTwice)
		twice.From++
		mustBe(t, x.Put(twice), api.ErrTwice)
		// A report's own error comes before that it is there already.
		twice.Tower = 7
		mustBe(t, x.Put(twice), api.ErrNone)
		if !slices.Equal(x.Reports(), many(n)) {
			t.Error(x.Reports())
		}
	}
	x := full(24)
	fresh, none := richReports()[0], richReports()[0]
	fresh.ID, none.Tower = 31, 7
	for _, r := range []api.Report{fresh, none, many(1)[0], {}} {
		mustBe(t, x.Put(r), api.ErrLimit, r)
	}
	if !slices.Equal(x.Reports(), many(24)) {
		t.Error(x.Reports())
	}
	mustBe(t, x.Take(many(24)[3].ID), api.OK)
	mustBe(t, x.Put(fresh), api.OK)
	mustBe(t, x.Put(none), api.ErrLimit)
	if want := append(slices.Delete(many(24), 3, 4), fresh); !slices.Equal(x.Reports(), want) {
		t.Error(x.Reports())
	}
}

// A report that was taken can be put again, also as another one.
func TestP6_9IDsAreFreeAgain(t *testing.T) {
	x := full(5)
	r := many(5)[2]
	mustBe(t, x.Put(r), api.ErrTwice)
	mustBe(t, x.Take(r.ID), api.OK)
	r.From++
	mustBe(t, x.Put(r), api.OK)
	if l := x.Reports(); len(l) != 5 || l[4] != r {
		t.Error(l)
	}
}

func TestP6_15OneByOne(t *testing.T) {
	r := random(40)
	var puts, takes, twice, empty int
	for range 60 {
		w := randomWorld(r, 8)
		x, e := cell.New(w.s, w.b)
		mustBe(t, e, api.OK)
		var l []api.Report
		for range 25 {
			one := w.anyReport(r)
			if y, ok := w.sights(r); ok && r.IntN(2) == 0 {
				one = y
			}
			one.ID = 1 + r.IntN(9)
			there := slices.ContainsFunc(l, func(o api.Report) bool { return o.ID == one.ID })
			switch {
			case r.IntN(3) == 0 && there:
				mustBe(t, x.Take(one.ID), api.OK)
				l = less(l, one.ID)
				takes++
			case there:
				mustBe(t, x.Put(one), api.ErrTwice)
				twice++
			default:
				mustBe(t, x.Take(one.ID), api.ErrNone)
				mustBe(t, x.Put(one), api.OK)
				l = append(l, one)
				puts++
			}
			stands(t, w, x, l)
			if !plainAgree(w.s, w.b, l) {
				empty++
			}
		}
	}
	counted(t, "reports put", puts, 500)
	counted(t, "reports taken", takes, 100)
	counted(t, "reports put twice", twice, 100)
	counted(t, "empty cells", empty, 200)
}

// stands fails a test unless a smoke is as some reports say.
func stands(t *testing.T, w world, x *cell.Smoke, l []api.Report) {
	t.Helper()
	if !slices.Equal(x.Reports(), l) {
		t.Fatal(x.Reports(), "instead of", l)
	}
	places, _ := cell.Places(w.s, w.b, l)
	if got := x.Cell(); !slices.Equal(got, places) || !slices.Equal(got, plainCell(w.s, w.b, l)) {
		t.Fatal(w.s, w.b, l, got, "instead of", places)
	}
	for _, p := range allPlaces(w.s.Country.Map) {
		want := plainWhy(w.s, w.b, l, p)
		if id, is := x.Why(p); id != want || is != (want != 0) {
			t.Fatal(w.s, w.b, l, p, id, is, "instead of", want)
		}
	}
}
