package cell_test

import (
	"slices"
	"testing"

	"firetower/api"
	"firetower/cell"
)

// longer returns a list with more behind its end, and a function that says whether what lies there is still as it was.
func longer[T comparable](l []T, behind T) ([]T, func() bool) {
	long := append(slices.Clone(l), behind, behind, behind, behind, behind)
	kept := slices.Clone(long)
	return long[:len(l)], func() bool { return slices.Equal(long, kept) }
}

// longService returns the rich service with more behind the end of each list.
func longService() (api.Service, []func() bool) {
	s := rich()
	var kept [5]func() bool
	s.Country.Map.Ground, kept[0] = longer(s.Country.Map.Ground, 77)
	s.Country.Towers, kept[1] = longer(s.Country.Towers, api.Tower{ID: 77})
	s.Country.Haze, kept[2] = longer(s.Country.Haze, api.Haze{From: 777, To: 777, Far: 77})
	s.Circles.Circles, kept[3] = longer(s.Circles.Circles, api.Circle{ID: 77})
	s.Circles.Checks, kept[4] = longer(s.Circles.Checks, api.Check{ID: 77})
	return s, kept[:]
}

func TestArgumentsAreNotChanged(t *testing.T) {
	b, _ := told()
	s, kept := longService()
	l, sameReports := longer(slices.Concat(many(4), richReports()[3:]), api.Report{ID: 77})
	o := right()
	var same [3]func() bool
	o.places, same[0] = longer(o.places, at(7, 7))
	o.reasons, same[1] = longer(o.reasons, api.Reason{Report: 77})
	o.looks, same[2] = longer(o.looks, api.Look{Tower: 77})
	for range 2 {
		answers(s, b, l, o)
		cell.Check(s)
		cell.Least(l, 10)
		for _, r := range l {
			cell.CheckReport(s, r)
			cell.Sector(s, r)
			cell.Allows(s, b, r, at(7, 7))
		}
		x, _ := cell.New(s, b)
		for _, r := range l {
			x.Put(r)
			x.Cell()
			x.Why(at(7, 7))
		}
		x.Take(l[0].ID)
		// The second time the reports agree.
		l, sameReports = longer(richReports(), api.Report{ID: 77})
	}
	for i, is := range append(append(kept, same[:]...), sameReports) {
		if !is() {
			t.Error("changed:", i)
		}
	}
}

// again calls a function a second time when its first result is overwritten, also behind its end.
func again[T comparable](t *testing.T, name string, get func() []T, other T) {
	t.Helper()
	first := get()
	want := slices.Clone(first)
	for i := range first[:cap(first)] {
		first[:cap(first)][i] = other
	}
	if got := get(); len(got) == 0 || !slices.Equal(got, want) {
		t.Error(name, got, "instead of", want)
	}
}

func TestResultsAreNewMemory(t *testing.T) {
	s := example()
	b, l := told()
	again(t, "Places:", func() []api.Place { out, _ := cell.Places(s, b, l[:1]); return out }, at(7, 7))
	again(t, "Reasons:", func() []api.Reason { out, _ := cell.Reasons(s, b, l); return out }, api.Reason{Report: 77})
	again(t, "Core:", func() []int { out, _ := cell.Core(s, b, l); return out }, -1)
	again(t, "Suspects:", func() []int { out, _ := cell.Suspects(s, b, l); return out }, -1)
	again(t, "Needed:", func() []int { out, _ := cell.Needed(s, b, l); return out }, -1)
	again(t, "Halves:", func() []api.Half { out, _, _ := cell.Halves(s, b, l); return out }, api.Half{})
	again(t, "Halves, IDs:", func() []int { _, out, _ := cell.Halves(s, b, l); return out }, -1)
	again(t, "Bound:", func() []api.Use { out, _ := cell.Bound(s, b, l, api.Form{Y: 1}); return out.Uses }, api.Use{})
	again(t, "Hull:", func() []api.Half { out, _ := cell.Hull(s, b, l[:1]); return out }, api.Half{})
	x, _ := cell.New(s, b)
	for _, r := range l[:2] {
		x.Put(r)
	}
	again(t, "Reports:", x.Reports, api.Report{ID: 77})
	again(t, "Cell:", x.Cell, at(7, 7))
}

// A smoke does not change if the service does of which it was made, nor does a smoke made of the same one.
func TestSmokesKeepNoArguments(t *testing.T) {
	b, _ := told()
	s := rich()
	x, _ := cell.New(s, b)
	y, _ := cell.New(s, b)
	for i := range s.Country.Map.Ground {
		s.Country.Map.Ground[i] = 4001
	}
	clear(s.Country.Towers)
	clear(s.Country.Haze)
	clear(s.Circles.Circles)
	clear(s.Circles.Checks)
	for _, r := range richReports() {
		mustBe(t, x.Put(r), api.OK, r)
	}
	want, _ := cell.Places(rich(), b, richReports())
	if got := x.Cell(); len(got) == 0 || !slices.Equal(got, want) {
		t.Error(got, "instead of", want)
	}
	if len(y.Reports()) != 0 || len(y.Cell()) != 441 {
		t.Error("two smokes share reports:", y.Reports())
	}
	old := x.Reports()
	mustBe(t, x.Take(5), api.OK)
	if !slices.Equal(old, richReports()) {
		t.Error("a result has changed:", old)
	}
}
