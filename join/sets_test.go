package join_test

import (
	"slices"
	"testing"

	"firetower/api"
	"firetower/join"
)

func TestP7_1SightingsOfExamples(t *testing.T) {
	d := example()
	for _, x := range []struct {
		l    []api.Report
		want []int
	}{
		{d.Reports, []int{1, 2, 3}}, {[]api.Report{d.Reports[2], blank(), d.Reports[0]}, []int{1, 3}}, {nil, nil}, {[]api.Report{blank()}, nil},
	} {
		d.Reports = x.l
		if l, e := join.Sightings(d); e != api.OK || !slices.Equal(l, x.want) {
			t.Error(x.l, l, e)
		}
		mustBe(t, join.Check(d), api.OK, x.l)
	}
}

// full returns a day with so many sightings, and blanks.
func full(sightings, blanks int) api.Day {
	d := example()
	d.Reports = nil
	for i := range sightings + blanks {
		r := example().Reports[i%2]
		if i >= sightings {
			r = blank()
		}
		r.ID = 100 - i
		d.Reports = append(d.Reports, r)
	}
	return d
}

func TestP7_1Limits(t *testing.T) {
	for _, x := range []struct {
		sightings, blanks int
		e                 api.Errno
	}{{7, 10, api.OK}, {7, 0, api.OK}, {0, 10, api.OK}, {0, 0, api.OK}, {8, 0, api.ErrLimit}, {0, 11, api.ErrLimit}, {8, 10, api.ErrLimit}, {7, 11, api.ErrLimit}, {500, 500, api.ErrLimit}} {
		d := full(x.sightings, x.blanks)
		mustBe(t, join.Check(d), x.e, x)
		if l, e := join.Sightings(d); e != x.e || e == api.OK && len(l) != x.sightings || e != api.OK && len(l) > 0 || !slices.IsSorted(l) {
			t.Error(x, l, e)
		}
	}
	d := full(2, 0)
	d.Rise, d.Long = 200, 1440
	mustBe(t, join.Check(d), api.OK, "greatest Rise and Long")
	d.Rise, d.Long = 0, 0
	mustBe(t, join.Check(d), api.OK, "least Rise and Long")
}

// What is no sighting counts as a blank, whatever else it is.
func TestP7_1OthersAreBlanks(t *testing.T) {
	d := example()
	d.Reports = make([]api.Report, 11)
	mustBe(t, join.Check(d), api.ErrLimit, d.Reports)
	d.Reports = d.Reports[:10]
	mustBe(t, join.Check(d), api.ErrArg, d.Reports)
}

func TestP7_1ErrorsOfDays(t *testing.T) {
	for _, x := range wrongDays() {
		d := rich()
		x.do(&d)
		mustBe(t, join.Check(d), x.e, x.name)
	}
	mustBe(t, join.Check(rich()), api.OK, "the rich day")
}

func TestP7_2SetsOfExamples(t *testing.T) {
	var diagonal []api.Place
	for n := 1; n <= 8; n++ {
		diagonal = append(diagonal, at(n, n))
	}
	d := example()
	for _, x := range []struct {
		d    api.Day
		ids  []int
		burn api.Burn
		cell []api.Place
	}{
		{d, []int{1, 2}, api.Burn{From: 100, To: 110}, []api.Place{at(4, 4)}},
		{d, []int{1}, api.Burn{From: 100, To: 100}, diagonal},
		{d, []int{3}, api.Burn{From: 300, To: 300}, diagonal},
		{d, []int{1, 3}, api.Burn{From: 100, To: 300}, nil},
		{d, []int{2, 3}, api.Burn{From: 110, To: 300}, nil},
		{d, []int{1, 2, 3}, api.Burn{From: 100, To: 300}, nil},
		{more(d, blank()), []int{1, 2}, api.Burn{From: 100, To: 110}, nil},
		// The minute of the blank is not one of the burn.
		{more(d, blank()), []int{1}, api.Burn{From: 100, To: 100}, diagonal},
	} {
		if b, e := join.Burn(x.d, x.ids); b != x.burn || e != api.OK {
			t.Error(x.ids, b, e)
		}
		if l, e := join.Cell(x.d, x.ids); !slices.Equal(l, x.cell) || e != api.OK {
			t.Error(x.ids, l, e)
		}
		if is, e := join.Possible(x.d, x.ids); is != (len(x.cell) > 0) || e != api.OK {
			t.Error(x.ids, is, e)
		}
	}
}

// A burn may be just as long as Long.
func TestP7_2LongestBurns(t *testing.T) {
	d := example()
	for _, x := range []struct {
		long int
		is   bool
	}{{0, false}, {9, false}, {10, true}, {11, true}, {1440, true}} {
		d.Long = x.long
		if is, e := join.Possible(d, []int{1, 2}); is != x.is || e != api.OK {
			t.Error(x, is, e)
		}
		if l, e := join.Cell(d, []int{1, 2}); len(l) > 0 != x.is || e != api.OK {
			t.Error(x, l, e)
		}
		if b, e := join.Burn(d, []int{1, 2}); b != (api.Burn{From: 100, To: 110}) || e != api.OK {
			t.Error(x, b, e)
		}
		if is, e := join.Possible(d, []int{1}); !is || e != api.OK {
			t.Error(x, is, e)
		}
	}
}

// A blank at the first or the last minute of a burn still counts.
func TestP7_2BlanksAtTheEndsOfBurns(t *testing.T) {
	for tick, is := range map[int]bool{99: true, 100: false, 105: false, 110: false, 111: true} {
		x := blank()
		x.Tick = tick
		if got, e := join.Possible(more(example(), x), []int{1, 2}); got != is || e != api.OK {
			t.Error(tick, got, e)
		}
	}
}

// Behind a hill only what rises high is seen.
func TestP7_2Rise(t *testing.T) {
	d := example()
	d.Service.Country.Map.Ground[2*9+2] = 20
	for rise, want := range map[int]int{0: 2, 20: 2, 30: 3, 50: 5, 79: 7, 80: 8, 200: 8} {
		d.Rise = rise
		if b, e := join.Burn(d, []int{1}); b != (api.Burn{From: 100, To: 100, Rise: rise}) || e != api.OK {
			t.Error(rise, b, e)
		}
		if l, e := join.Cell(d, []int{1}); len(l) != want || e != api.OK {
			t.Error(rise, l, e)
		}
	}
}

func TestP7_2ErrorsOfIDs(t *testing.T) {
	d := more(example(), blank())
	for _, x := range []struct {
		ids []int
		e   api.Errno
	}{
		{nil, api.ErrArg}, {[]int{}, api.ErrArg}, {[]int{2, 1}, api.ErrArg}, {[]int{1, 1}, api.ErrArg}, {[]int{1, 3, 2}, api.ErrArg}, {[]int{1, 2, 2}, api.ErrArg},
		{[]int{4}, api.ErrNone}, {[]int{1, 4}, api.ErrNone}, {[]int{0}, api.ErrNone}, {[]int{-1, 1}, api.ErrNone}, {[]int{5}, api.ErrNone}, {[]int{1, 2, 3, 4}, api.ErrNone},
		{[]int{9, 8}, api.ErrArg}, {[]int{4, 1}, api.ErrArg}, {[]int{9, 9}, api.ErrArg}, {[]int{0, 1, 1}, api.ErrArg}, {slices.Repeat([]int{9}, 1000), api.ErrArg},
	} {
		if b, e := join.Burn(d, x.ids); b != (api.Burn{}) || e != x.e {
			t.Error(x.ids, b, e)
		}
		if l, e := join.Cell(d, x.ids); len(l) > 0 || e != x.e {
			t.Error(x.ids, l, e)
		}
		if is, e := join.Possible(d, x.ids); is || e != x.e {
			t.Error(x.ids, is, e)
		}
	}
}

func TestP7_2Sets(t *testing.T) {
	r := random(1)
	var possible, long, empty, blanked int
	for range 500 {
		d := randomDay(r, 10, 6)
		for _, s := range plainSets(plainSightings(d)) {
			want := plainCell(d, s)
			if b, e := join.Burn(d, s); b != plainBurn(d, s) || e != api.OK {
				t.Fatal(d, s, b, e)
			}
			if l, e := join.Cell(d, s); !slices.Equal(l, want) || e != api.OK {
				t.Fatal(d, s, l, e, "instead of", want)
			}
			if is, e := join.Possible(d, s); is != (len(want) > 0) || e != api.OK {
				t.Fatal(d, s, is, e)
			}
			seen := d
			seen.Reports = slices.DeleteFunc(plainList(d, s), func(r api.Report) bool { return r.Kind == api.ReBlank })
			switch {
			case len(want) > 0:
				possible++
			case plainLong(d, s):
				long++
			case len(plainCell(seen, s)) > 0:
				blanked++
			default:
				empty++
			}
		}
	}
	counted(t, "possible sets", possible, 200)
	counted(t, "too long burns", long, 200)
	counted(t, "sets that only blanks exclude", blanked, 50)
	counted(t, "empty cells", empty, 200)
}
