package crew_test

import (
	"math"
	"slices"
	"testing"

	"firetower/api"
	"firetower/crew"
)

// smokeAt returns a smoke that is proved.
func smokeAt(l ...api.Place) api.Blaze { return api.Blaze{ID: 7, Cell: l, Proved: true} }

func TestP9_6Reach(t *testing.T) {
	far := []api.Trail{{ID: 1, A: at(30, 30), B: at(40, 30), Fast: 1, Slow: 1}}
	for _, x := range []struct {
		l    []api.Trail
		at   api.Place
		free int
		b    api.Blaze
		tick int
		want int
	}{
		{example(), at(0, 0), 0, smokeAt(at(11, 0), at(12, 1)), 0, 80},
		{example(), at(0, 0), 0, smokeAt(at(11, 0)), 0, 60},
		{example(), at(0, 0), 0, smokeAt(at(0, 0), at(11, 0)), 0, 60},
		{example(), at(0, 0), 0, smokeAt(at(12, 0), at(0, 1)), 0, 80},
		{example(), at(0, 0), 0, smokeAt(at(10, 0)), 0, 40},
		{example(), at(0, 0), 0, smokeAt(at(0, 0)), 0, 0},
		{example(), at(0, 0), 5, smokeAt(at(10, 0)), 3, 45},
		{example(), at(0, 0), 3, smokeAt(at(10, 0)), 5, 45},
		{example(), at(0, 0), 3, smokeAt(at(10, 0)), 110, 190},
		{example(), at(0, 0), 110, smokeAt(at(10, 0)), 3, 190},
		{example(), at(0, 0), 0, smokeAt(at(1, 0)), 0, 20},
		{example(), at(0, 0), 0, smokeAt(at(1, 2)), 0, 40},
		{example(), at(0, 0), 0, smokeAt(at(2, 1)), 0, 40},
		{example(), at(0, 0), 0, smokeAt(at(3, 3)), 0, 60},
		{example(), at(0, 0), 0, smokeAt(at(8, 8)), 0, 130},
		{example(), at(0, 0), 0, smokeAt(at(12, 7)), 0, 150},
		{example(), at(0, 0), 0, smokeAt(at(48, 48)), 0, 850},
		{example(), at(9, 9), 0, smokeAt(at(10, 10)), 0, 20},
		{example(), at(1, 0), 0, smokeAt(at(10, 0)), 0, 180},
		{nil, at(0, 0), 5, smokeAt(at(11, 0), at(12, 1)), 3, 245},
		{nil, at(48, 48), 0, smokeAt(at(0, 0)), 0, 960},
		{nil, at(48, 0), 1 << 20, smokeAt(at(0, 48)), 1 << 20, 1<<20 + 960},
		{far, at(0, 0), 0, smokeAt(at(30, 30)), 0, 600},
		{far, at(30, 30), 0, smokeAt(at(41, 30)), 0, 21},
		{far, at(30, 30), 0, smokeAt(at(29, 29), at(31, 31)), 0, 20},
	} {
		for _, proved := range []bool{true, false} {
			x.b.Proved = proved
			if n, e := crew.Reach(x.l, api.Crew{ID: 1, At: x.at, Free: x.free}, x.b, x.tick); n != x.want || e != api.OK {
				t.Error(x, n, e)
			}
		}
	}
}

func TestP9_6ReachLimits(t *testing.T) {
	last := api.Crew{ID: 1 << 40, At: at(48, 48), Free: 1 << 20}
	first := api.Crew{ID: 1}
	full := api.Blaze{ID: 1 << 40, Cell: cellOf(200)}
	corner := api.Blaze{ID: 1, Cell: []api.Place{at(0, 0), at(48, 0), at(0, 1), at(47, 48), at(48, 48)}}
	for _, x := range []struct {
		c    api.Crew
		b    api.Blaze
		tick int
		want int
	}{
		{last, full, 0, 1<<20 + 960}, {last, corner, 1 << 20, 1<<20 + 960}, {first, full, 0, 780}, {first, corner, 1 << 20, 1<<20 + 960},
	} {
		if n, e := crew.Reach(nil, x.c, x.b, x.tick); n != x.want || e != api.OK {
			t.Error(x, n, e)
		}
	}
}

func TestP9_6ReachErrors(t *testing.T) {
	right := someCrews(1)[0]
	for _, x := range wrongCrewsAlone() {
		c := right
		x.do(&c)
		n, e := crew.Reach(example(), c, smokeAt(at(1, 1)), 0)
		if n != 0 || e != x.e {
			t.Error(x.name, c, n, e)
		}
	}
	for _, x := range wrongBlazesAlone() {
		for _, proved := range []bool{true, false} {
			b := smokeAt(at(1, 1))
			b.Proved = proved
			x.do(&b)
			n, e := crew.Reach(example(), right, b, 0)
			if n != 0 || e != x.e {
				t.Error(x.name, b, n, e)
			}
		}
	}
	for _, tick := range outside(0, 1<<20) {
		if n, e := crew.Reach(example(), right, smokeAt(at(1, 1)), tick); n != 0 || e != api.ErrArg {
			t.Error(tick, n, e)
		}
	}
}

func TestP9_6ReachAtRandom(t *testing.T) {
	r := random(8)
	off := 0
	for range 1500 {
		l, c, b, tick := randomTrails(r), randomCrew(r, 1), randomBlaze(r, 1), r.IntN(70)
		want := plainReach(l, c, b, tick)
		if n, e := crew.Reach(l, c, b, tick); n != want || e != api.OK {
			t.Fatal(l, c, b, tick, n, e, "instead of", want)
		}
		if want != plainReach(nil, c, b, tick) {
			off++
		}
	}
	counted(t, "smokes that trails help to reach", off, 400)
}

func TestP9_6Times(t *testing.T) {
	crews := []api.Crew{{ID: 4, At: at(0, 0)}, {ID: 2, At: at(10, 0), Free: 30}}
	blazes := []api.Blaze{{ID: 3, Cell: []api.Place{at(11, 0), at(12, 1)}, Proved: true}, {ID: 1, Cell: []api.Place{at(0, 0)}}, {ID: 2, Cell: []api.Place{at(0, 0)}, Proved: true}}
	for _, x := range []struct {
		crews  []api.Crew
		blazes []api.Blaze
		tick   int
		want   [][]int
	}{
		{crews, blazes, 0, [][]int{{80, -1, 0}, {70, -1, 70}}},
		{crews, blazes, 50, [][]int{{130, -1, 50}, {90, -1, 90}}},
		{crews, nil, 0, [][]int{nil, nil}},
		{nil, blazes, 0, nil},
		{nil, nil, 0, nil},
		{crews[:1], blazes[1:2], 1 << 20, [][]int{{-1}}},
	} {
		if got, e := crew.Times(example(), x.crews, x.blazes, x.tick); e != api.OK || !sameTables(got, x.want) {
			t.Error(x, got, e)
		}
	}
	if got, e := crew.Times(example(), someCrews(6), someBlazes(8), 0); e != api.OK || len(got) != 6 || len(got[5]) != 8 {
		t.Error(got, e)
	}
}

func TestP9_6TimesErrors(t *testing.T) {
	call := func(name string, want api.Errno, crews []api.Crew, blazes []api.Blaze, tick int) {
		t.Helper()
		if got, e := crew.Times(example(), crews, blazes, tick); len(got) > 0 || e != want {
			t.Error(name, got, e, "instead of", want)
		}
	}
	for _, x := range wrongCrews() {
		crews := someCrews(3)
		x.do(&crews)
		call(x.name, x.e, crews, someBlazes(3), 0)
		call(x.name, x.e, crews, nil, -1)
	}
	for _, x := range wrongBlazes() {
		blazes := someBlazes(3)
		x.do(&blazes)
		call(x.name, x.e, someCrews(3), blazes, 0)
		call(x.name, x.e, nil, blazes, -1)
	}
	for _, tick := range outside(0, 1<<20) {
		call("minute", api.ErrArg, someCrews(3), someBlazes(3), tick)
		call("minute alone", api.ErrArg, nil, nil, tick)
	}
	twice := func(n int) []api.Crew { return slices.Repeat(someCrews(1), n) }
	call("seven crews before a wrong smoke", api.ErrLimit, someCrews(7), make([]api.Blaze, 1), -1)
	call("nine smokes before a wrong crew", api.ErrLimit, make([]api.Crew, 1), someBlazes(9), -1)
	call("nine smokes before a crew twice", api.ErrLimit, twice(2), someBlazes(9), 0)
	call("a crew twice before a wrong smoke", api.ErrTwice, twice(2), make([]api.Blaze, 1), -1)
	call("a wrong crew before a smoke twice", api.ErrArg, make([]api.Crew, 1), slices.Repeat(someBlazes(1), 2), -1)
	call("a smoke twice before the minute", api.ErrTwice, someCrews(2), slices.Repeat(someBlazes(1), 2), math.MaxInt)
}

func TestP9_6TimesAtRandom(t *testing.T) {
	r := random(9)
	numbers := 0
	for range 200 {
		l, crews, blazes, tick := randomTrails(r), randomCrews(r, 6), randomBlazes(r, 8), r.IntN(70)
		want := plainTimes(l, crews, blazes, tick)
		got, e := crew.Times(l, crews, blazes, tick)
		if e != api.OK || !sameTables(got, want) {
			t.Fatal(l, crews, blazes, tick, got, e, "instead of", want)
		}
		for _, row := range got {
			numbers += len(row)
		}
	}
	counted(t, "numbers", numbers, 1000)
}
