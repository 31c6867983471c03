package ridge_test

import (
	"math"
	"slices"
	"testing"

	"firetower/api"
	"firetower/ridge"
)

func part(num, den int) api.Fraction { return api.Fraction{Num: num, Den: den} }

// column and row return what a line meets at one.
func column(step int, along, ground api.Fraction) api.Profile {
	return api.Profile{Cross: api.Crossing{Axis: 0, Step: step}, Along: along, Ground: ground}
}

func row(step int, along, ground api.Fraction) api.Profile {
	return api.Profile{Cross: api.Crossing{Axis: 1, Step: step}, Along: along, Ground: ground}
}

// numbered returns a map each height of which tells its place: ten times Y plus X.
func numbered(wide, high int) api.Map {
	m := api.Map{Wide: wide, High: high}
	for i := range wide * high {
		m.Ground = append(m.Ground, i/wide*10+i%wide)
	}
	return m
}

func TestP4_3Line(t *testing.T) {
	m, n := example(), numbered(7, 6)
	for _, x := range []struct {
		m    api.Map
		a, b api.Place
		want []api.Profile
	}{
		{m, at(0, 0), at(4, 2), []api.Profile{column(1, part(1, 4), part(0, 1)), column(2, part(1, 2), part(20, 1)), row(1, part(1, 2), part(20, 1)), column(3, part(3, 4), part(0, 1))}},
		{m, at(0, 1), at(4, 2), []api.Profile{column(1, part(1, 4), part(0, 1)), column(2, part(1, 2), part(25, 1)), column(3, part(3, 4), part(0, 1))}},
		{m, at(0, 1), at(3, 2), []api.Profile{column(1, part(1, 3), part(0, 1)), column(2, part(2, 3), part(80, 3))}},
		{m, at(2, 0), at(2, 2), []api.Profile{row(1, part(1, 2), part(20, 1))}},
		{m, at(2, 2), at(3, 0), []api.Profile{row(1, part(1, 2), part(10, 1))}},
		// A line from a place to itself, or to one beside it, meets nothing.
		{m, at(2, 1), at(2, 1), nil}, {m, at(2, 1), at(3, 1), nil}, {m, at(2, 1), at(2, 0), nil}, {m, at(2, 1), at(3, 2), nil}, {m, at(2, 1), at(1, 2), nil},
		{n, at(5, 4), at(2, 4), []api.Profile{column(1, part(1, 3), part(44, 1)), column(2, part(2, 3), part(43, 1))}},
		{n, at(3, 1), at(3, 5), []api.Profile{row(1, part(1, 4), part(23, 1)), row(2, part(1, 2), part(33, 1)), row(3, part(3, 4), part(43, 1))}},
		{n, at(4, 5), at(1, 2), []api.Profile{column(1, part(1, 3), part(43, 1)), row(1, part(1, 3), part(43, 1)), column(2, part(2, 3), part(32, 1)), row(2, part(2, 3), part(32, 1))}},
		{n, at(1, 4), at(6, 1), []api.Profile{column(1, part(1, 5), part(36, 1)), row(1, part(1, 3), part(98, 3)), column(2, part(2, 5), part(31, 1)), column(3, part(3, 5), part(26, 1)), row(2, part(2, 3), part(73, 3)), column(4, part(4, 5), part(21, 1))}},
		{n, at(6, 1), at(1, 4), []api.Profile{column(1, part(1, 5), part(21, 1)), row(1, part(1, 3), part(73, 3)), column(2, part(2, 5), part(26, 1)), column(3, part(3, 5), part(31, 1)), row(2, part(2, 3), part(98, 3)), column(4, part(4, 5), part(36, 1))}},
	} {
		got, e := ridge.Line(x.m, x.a, x.b)
		if e != api.OK || !slices.Equal(got, x.want) {
			t.Error(x.a, x.b, got, e, "instead of", x.want)
		}
	}
}

func TestP4_3RandomLines(t *testing.T) {
	r := random(4)
	ties, fractions := 0, 0
	for i := range 1500 {
		m := randomMap(r, []int{4, 9, 49}[i%3])
		a, b := randomPlace(r, m), randomPlace(r, m)
		got, e := ridge.Line(m, a, b)
		if want := plainLine(m, a, b); e != api.OK || !slices.Equal(got, want) {
			t.Fatal(m, a, b, got, e, "instead of", want)
		}
		for j, p := range got {
			if p.Ground.Den > 1 {
				fractions++
			}
			if j > 0 && p.Along == got[j-1].Along {
				ties++
			}
		}
	}
	if ties < 200 || fractions < 200 {
		t.Error("too seldom:", ties, fractions)
	}
}

// All lines of a map, and those between the corners and sides of the largest one.
func TestP4_3AllLines(t *testing.T) {
	r := random(5)
	m := numbered(6, 5)
	for i := range m.Ground {
		m.Ground[i] = r.IntN(4001)
	}
	large := flat(49, 49, 0)
	for i := range large.Ground {
		large.Ground[i] = r.IntN(2) * 4000
	}
	check := func(m api.Map, a, b api.Place) {
		got, e := ridge.Line(m, a, b)
		if want := plainLine(m, a, b); e != api.OK || !slices.Equal(got, want) {
			t.Error(a, b, got, e, "instead of", want)
		}
	}
	for _, a := range allPlaces(m) {
		for _, b := range allPlaces(m) {
			check(m, a, b)
		}
	}
	ends := []api.Place{at(0, 0), at(48, 0), at(0, 48), at(48, 48), at(1, 48), at(48, 47), at(0, 1), at(24, 0), at(17, 31), at(47, 1)}
	for _, a := range ends {
		for _, b := range ends {
			check(large, a, b)
		}
	}
	if l, _ := ridge.Line(large, at(0, 0), at(48, 47)); len(l) != 47+46 {
		t.Error(len(l), "crossings")
	}
}

func TestP4_4Clear(t *testing.T) {
	m := example()
	peak := flat(3, 1, 0)
	peak.Ground = []int{0, 7, 0}
	pit := flat(4, 1, 0)
	pit.Ground = []int{4000, 3999, 3999, 4000}
	for _, x := range []struct {
		sight
		is bool
	}{
		{sight{m, at(0, 0), at(4, 2), 20, 20}, true}, {sight{m, at(0, 0), at(4, 2), 20, 19}, false}, {sight{m, at(0, 0), at(4, 2), 19, 20}, false}, {sight{m, at(0, 0), at(4, 2), 0, 40}, true}, {sight{m, at(0, 0), at(4, 2), 0, 39}, false},
		{sight{m, at(0, 0), at(2, 0), 0, 0}, true}, {sight{m, at(2, 2), at(2, 0), 0, 0}, true}, {sight{m, at(1, 0), at(3, 0), 9, 10}, false}, {sight{m, at(1, 0), at(3, 0), 10, 10}, true},
		{sight{m, at(2, 2), at(2, 2), 0, 200}, true}, {sight{m, at(2, 2), at(2, 2), 200, 0}, true}, {sight{m, at(0, 1), at(1, 1), 0, 0}, true}, {sight{m, at(2, 2), at(1, 1), 0, 0}, true}, {sight{m, at(1, 1), at(2, 2), 0, 0}, true},
		{sight{peak, at(0, 0), at(2, 0), 7, 7}, true}, {sight{peak, at(0, 0), at(2, 0), 0, 14}, true}, {sight{peak, at(0, 0), at(2, 0), 13, 0}, false}, {sight{peak, at(2, 0), at(0, 0), 6, 7}, false}, {sight{peak, at(2, 0), at(1, 0), 0, 0}, true},
		{sight{pit, at(0, 0), at(3, 0), 0, 0}, true}, {sight{pit, at(1, 0), at(3, 0), 0, 0}, true}, {sight{pit, at(0, 0), at(2, 0), 200, 0}, true}, {sight{flat(49, 49, 4000), at(48, 0), at(0, 47), 0, 0}, true},
	} {
		if is := isFree(t, x.m, x.a, x.up, x.b, x.rise); is != x.is {
			t.Error(x, is)
		}
	}
}

func TestP4_4RandomLines(t *testing.T) {
	r := random(6)
	var free, blocked, justFree int
	for i := range 4000 {
		s := randomSight(r, []int{4, 6, 12, 49}[i%4])
		want := plainBlocks(s.m, s.a, s.up, s.b, s.rise)
		is := isFree(t, s.m, s.a, s.up, s.b, s.rise)
		x, ok, e := ridge.Block(s.m, s.a, s.up, s.b, s.rise)
		if e != api.OK || is != (len(want) == 0) || ok == is || ok && x != want[0] || !ok && x != (api.Crossing{}) {
			t.Fatal(s, is, x, ok, e, "instead of", want)
		}
		switch {
		case !is:
			blocked++
		case touches(s.m, s.a, s.up, s.b, s.rise):
			justFree++
		case s.a != s.b:
			free++
		}
	}
	if free < 300 || blocked < 300 || justFree < 150 {
		t.Error("too seldom:", free, blocked, justFree)
	}
}

func TestP4_4Block(t *testing.T) {
	m, wall := example(), example()
	wall.Ground[1+5], wall.Ground[3+5] = 11, 40
	for _, x := range []struct {
		sight
		want api.Crossing
		is   bool
	}{
		{sight{m, at(0, 0), at(4, 2), 20, 19}, api.Crossing{Step: 2}, true}, {sight{m, at(4, 2), at(0, 0), 20, 19}, api.Crossing{Step: 2}, true}, {sight{m, at(0, 0), at(4, 2), 20, 20}, api.Crossing{}, false},
		{sight{m, at(1, 2), at(3, 0), 0, 0}, api.Crossing{Step: 1}, true}, {sight{turned(m), at(2, 1), at(0, 3), 0, 0}, api.Crossing{Step: 1}, true}, {sight{turned(m), at(1, 0), at(2, 4), 0, 0}, api.Crossing{Axis: 1, Step: 2}, true},
		{sight{wall, at(0, 1), at(4, 1), 0, 0}, api.Crossing{Step: 1}, true}, {sight{wall, at(0, 1), at(4, 1), 11, 11}, api.Crossing{Step: 2}, true}, {sight{wall, at(4, 1), at(0, 1), 11, 11}, api.Crossing{Step: 1}, true}, {sight{wall, at(4, 1), at(0, 1), 60, 0}, api.Crossing{}, false},
		{sight{m, at(2, 2), at(2, 2), 0, 0}, api.Crossing{}, false}, {sight{m, at(1, 1), at(2, 2), 0, 0}, api.Crossing{}, false},
	} {
		got, is, e := ridge.Block(x.m, x.a, x.up, x.b, x.rise)
		if got != x.want || is != x.is || e != api.OK {
			t.Error(x, got, is, e)
		}
	}
}

// someCrossings returns crossings, among which are all that a line has, and others that it does not have.
func someCrossings(most int) []api.Crossing {
	out := []api.Crossing{{Axis: math.MaxInt, Step: 1}, {Axis: math.MinInt, Step: 1}, {Step: math.MaxInt}, {Step: math.MinInt}, {Axis: 1, Step: math.MaxInt}, {Axis: 1, Step: math.MinInt}}
	for axis := -1; axis < 4; axis++ {
		for step := -2; step <= most; step++ {
			out = append(out, api.Crossing{Axis: axis, Step: step})
		}
	}
	return out
}

func TestP4_4CheckBlock(t *testing.T) {
	m := example()
	for _, x := range someCrossings(6) {
		want := api.ErrProof
		if x.Step == 2 && x.Axis == 0 || x.Step == 1 && x.Axis == 1 {
			want = api.OK
		}
		mustBe(t, ridge.CheckBlock(m, at(0, 0), 20, at(4, 2), 19, x), want, x)
		mustBe(t, ridge.CheckBlock(m, at(4, 2), 19, at(0, 0), 20, x), want, x)
		mustBe(t, ridge.CheckBlock(m, at(4, 2), 20, at(0, 0), 20, x), api.ErrProof, x)
		mustBe(t, ridge.CheckBlock(m, at(2, 2), 20, at(2, 2), 20, x), api.ErrProof, x)
		mustBe(t, ridge.CheckBlock(m, at(1, 1), 0, at(0, 0), 0, x), api.ErrProof, x)
		mustBe(t, ridge.CheckBlock(m, at(5, 1), 0, at(0, 0), 0, x), api.ErrArg, x)
		mustBe(t, ridge.CheckBlock(m, at(0, 0), 20, at(4, 2), 201, x), api.ErrArg, x)
	}
	r := random(7)
	several := 0
	for range 1500 {
		s := randomSight(r, 9)
		blocks := plainBlocks(s.m, s.a, s.up, s.b, s.rise)
		if len(blocks) > 1 {
			several++
		}
		for _, x := range someCrossings(10) {
			want := api.ErrProof
			if slices.Contains(blocks, x) {
				want = api.OK
			}
			mustBe(t, ridge.CheckBlock(s.m, s.a, s.up, s.b, s.rise, x), want, s, x)
		}
	}
	if several < 200 {
		t.Error("too seldom:", several)
	}
}

func TestP4_5Needed(t *testing.T) {
	m := example()
	peak := api.Map{Wide: 4, High: 1, Ground: []int{0, 4000, 0, 0}}
	for _, x := range []struct {
		m    api.Map
		a    api.Place
		up   int
		b    api.Place
		want int
	}{
		{m, at(0, 1), 30, at(4, 1), 10}, {m, at(0, 1), 30, at(2, 1), 0}, {m, at(0, 1), 20, at(4, 1), 20}, {m, at(0, 1), 0, at(4, 1), 40}, {m, at(0, 1), 40, at(4, 1), 0}, {m, at(0, 1), 200, at(4, 1), 0},
		{m, at(0, 1), 0, at(3, 1), 30}, {m, at(0, 1), 1, at(3, 1), 30}, {m, at(0, 1), 2, at(3, 1), 29}, {m, at(0, 1), 3, at(3, 1), 29}, {m, at(0, 1), 4, at(3, 1), 28},
		{m, at(1, 1), 0, at(4, 1), 60}, {m, at(1, 1), 1, at(4, 1), 58}, {m, at(2, 2), 0, at(2, 2), 0}, {m, at(2, 2), 0, at(1, 2), 0},
		{peak, at(0, 0), 0, at(2, 0), 8000}, {peak, at(0, 0), 0, at(3, 0), 12000}, {peak, at(0, 0), 200, at(3, 0), 11600}, {peak, at(3, 0), 0, at(0, 0), 6000}, {peak, at(3, 0), 1, at(0, 0), 6000}, {peak, at(3, 0), 2, at(0, 0), 5999},
	} {
		if n, e := ridge.Needed(x.m, x.a, x.up, x.b); n != x.want || e != api.OK {
			t.Error(x, n, e)
		}
	}
	// The farthest line over the highest ground that is only just beyond its beginning.
	wall := api.Map{Wide: 49, High: 1, Ground: make([]int, 49)}
	wall.Ground[1] = 4000
	if n, e := ridge.Needed(wall, at(0, 0), 0, at(48, 0)); n != 48*4000 || e != api.OK {
		t.Error(n, e)
	}
	if n, e := ridge.Tall(wall, at(48, 0), at(0, 0), 0); n != 48*4000 || e != api.OK {
		t.Error(n, e)
	}
}

func TestP4_5Tall(t *testing.T) {
	m := example()
	for _, x := range []struct {
		m    api.Map
		a, b api.Place
		rise int
		want int
	}{
		{m, at(0, 2), at(4, 2), 10, 50}, {m, at(0, 2), at(4, 2), 60, 0}, {m, at(0, 2), at(4, 2), 59, 1}, {m, at(0, 0), at(4, 2), 19, 21},
		{m, at(0, 1), at(3, 1), 0, 60}, {m, at(0, 1), at(3, 1), 1, 58}, {m, at(1, 1), at(4, 1), 0, 30}, {m, at(1, 1), at(4, 1), 1, 30}, {m, at(1, 1), at(4, 1), 2, 29},
		{m, at(2, 0), at(2, 0), 0, 0}, {m, at(2, 2), at(0, 2), 0, 0}, {m, at(2, 0), at(2, 2), 0, 0}, {m, at(2, 0), at(2, 1), 0, 0},
	} {
		if n, e := ridge.Tall(x.m, x.a, x.b, x.rise); n != x.want || e != api.OK {
			t.Error(x, n, e)
		}
	}
}

func TestP4_5LeastHeights(t *testing.T) {
	r := random(8)
	var none, some, much int
	for i := range 2000 {
		s := randomSight(r, []int{4, 7, 12, 49}[i%4])
		n, e := ridge.Needed(s.m, s.a, s.up, s.b)
		if e != api.OK || n != plainNeeded(s.m, s.a, s.up, s.b) || !plainFree(s.m, s.a, s.up, s.b, n) || n > 0 && plainFree(s.m, s.a, s.up, s.b, n-1) {
			t.Fatal("Needed:", s, n, e)
		}
		k, e := ridge.Tall(s.m, s.a, s.b, s.rise)
		if e != api.OK || k < 0 || !plainFree(s.m, s.a, k, s.b, s.rise) || k > 0 && plainFree(s.m, s.a, k-1, s.b, s.rise) {
			t.Fatal("Tall:", s, k, e)
		}
		for _, n := range []int{n, k} {
			switch {
			case n == 0:
				none++
			case n <= 200:
				some++
			default:
				much++
			}
		}
	}
	if none < 300 || some < 300 || much < 300 {
		t.Error("too seldom:", none, some, much)
	}
}
