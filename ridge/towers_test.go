package ridge_test

import (
	"math"
	"slices"
	"testing"

	"firetower/api"
	"firetower/ridge"
)

// asked is what the functions with a country are asked.
type asked struct {
	id                         int
	p                          api.Place
	height, rise, tick, towers int
}

// ofCountry calls all functions with a country and an error, and returns their errors by name; it fails if there is a result with one.
func ofCountry(t *testing.T, c api.Country, a asked) map[string]api.Errno {
	t.Helper()
	seen, e0 := ridge.Seen(c, a.id, a.rise)
	dead, e1 := ridge.Dead(c, a.id, a.rise)
	sees, e2 := ridge.Sees(c, a.id, a.p, a.rise, a.tick)
	far, e3 := ridge.Far(c, a.tick)
	watchers, e4 := ridge.Watchers(c, a.p, a.rise, a.tick)
	covered, e5 := ridge.Covered(c, a.rise, a.tick, a.towers)
	links, e6 := ridge.Links(c)
	best, gain, e7 := ridge.Best(c, a.height, a.rise, a.tick)
	spare, e8 := ridge.Spare(c, a.rise, a.tick)
	fewest, e9 := ridge.Fewest(c, a.rise, a.tick)
	out := map[string]api.Errno{"Seen": e0, "Dead": e1, "Sees": e2, "Far": e3, "Watchers": e4, "Covered": e5, "Links": e6, "Best": e7, "Spare": e8, "Fewest": e9}
	got := map[string]bool{"Seen": len(seen) > 0, "Dead": len(dead) > 0, "Sees": sees, "Far": far != 0, "Watchers": len(watchers) > 0, "Covered": len(covered) > 0, "Links": len(links) > 0, "Best": best != api.Place{} || gain != 0, "Spare": len(spare) > 0, "Fewest": len(fewest) > 0}
	for name, e := range out {
		if e != api.OK && got[name] {
			t.Error(name, "a result with an error:", c, a)
		}
	}
	return out
}

// expect fails unless all functions with a country return an error e if they are among some names, and otherwise none.
func expect(t *testing.T, c api.Country, a asked, e api.Errno, names ...string) {
	t.Helper()
	for name, got := range ofCountry(t, c, a) {
		want := api.OK
		if slices.Contains(names, name) {
			want = e
		}
		mustBe(t, got, want, name, c, a)
	}
}

func every() []string {
	return []string{"Seen", "Dead", "Sees", "Far", "Watchers", "Covered", "Links", "Best", "Spare", "Fewest"}
}

func TestP4_6ErrorsOfCountries(t *testing.T) {
	right := asked{id: 1 << 40, p: at(1, 2), height: 7, rise: 3, tick: 25, towers: 2}
	bad := asked{id: 99, p: at(5, 3), height: 201, rise: -1, tick: -1, towers: 13}
	expect(t, country(), right, api.OK)
	expect(t, country(), asked{id: 1, p: at(4, 2), height: 200, rise: 200, tick: 1 << 20, towers: 12}, api.OK)
	expect(t, country(), asked{id: 2, towers: 1}, api.OK)
	for _, x := range wrongCountries() {
		expect(t, x.c, right, x.e, every()...)
		expect(t, x.c, bad, x.e, every()...)
	}
	for _, id := range []int{0, -1, 3, 1<<40 + 1, math.MinInt, math.MaxInt} {
		a := right
		a.id = id
		expect(t, country(), a, api.ErrNone, "Seen", "Dead", "Sees")
	}
	// No tower is looked for before the country is right, and all else comes behind it.
	for name, e := range ofCountry(t, country(), bad) {
		want := api.ErrArg
		switch name {
		case "Seen", "Dead", "Sees":
			want = api.ErrNone
		case "Links":
			want = api.OK
		}
		mustBe(t, e, want, name)
	}
	for _, p := range wrongPlaces() {
		a := right
		a.p = p
		expect(t, country(), a, api.ErrArg, "Sees", "Watchers")
	}
	for _, n := range wrongTalls() {
		a := right
		a.rise = n
		expect(t, country(), a, api.ErrArg, "Seen", "Dead", "Sees", "Watchers", "Covered", "Best", "Spare", "Fewest")
		a.rise, a.height = 0, n
		expect(t, country(), a, api.ErrArg, "Best")
	}
	for _, n := range wrongTicks() {
		a := right
		a.tick = n
		expect(t, country(), a, api.ErrArg, "Far", "Sees", "Watchers", "Covered", "Best", "Spare", "Fewest")
	}
	for _, n := range []int{0, 13, -1, math.MinInt, math.MaxInt} {
		a := right
		a.towers = n
		expect(t, country(), a, api.ErrArg, "Covered")
	}
	expect(t, api.Country{Map: example()}, right, api.ErrNone, "Seen", "Dead", "Sees")
}

func TestP4_6Seen(t *testing.T) {
	c := country()
	for _, x := range []struct {
		id, rise int
		dead     []api.Place
	}{
		{2, 0, []api.Place{at(3, 0), at(4, 0), at(3, 1), at(4, 1), at(3, 2), at(4, 2)}},
		{1, 0, []api.Place{at(0, 0), at(1, 0), at(0, 1), at(1, 1), at(0, 2), at(1, 2)}},
		{1 << 40, 0, nil},
		{2, 10, []api.Place{at(3, 1), at(4, 1), at(3, 2), at(4, 2)}},
		{2, 200, nil},
	} {
		seen, e := ridge.Seen(c, x.id, x.rise)
		dead, f := ridge.Dead(c, x.id, x.rise)
		if e != api.OK || f != api.OK {
			t.Error(x, e, f)
		}
		if want := chosen(c.Map, func(p api.Place) bool {
			return plainFree(c.Map, towerNamed(c, x.id).At, towerNamed(c, x.id).Height, p, x.rise)
		}); !slices.Equal(seen, want) {
			t.Error(x, seen, "instead of", want)
		}
		if !slices.Equal(dead, x.dead) {
			t.Error(x, dead, "instead of", x.dead)
		}
	}
}

func TestP4_6RandomTowers(t *testing.T) {
	r := random(9)
	var all, some int
	for range 250 {
		c := randomCountry(r, 8, 4)
		if len(c.Towers) == 0 {
			continue
		}
		id, rise := anyID(r, c), randomTall(r)
		tower := towerNamed(c, id)
		seen, e := ridge.Seen(c, id, rise)
		dead, f := ridge.Dead(c, id, rise)
		sees := func(p api.Place) bool { return plainFree(c.Map, tower.At, tower.Height, p, rise) }
		want := chosen(c.Map, sees)
		rest := chosen(c.Map, func(p api.Place) bool { return !sees(p) })
		if e != api.OK || f != api.OK || !slices.Equal(seen, want) || !slices.Equal(dead, rest) {
			t.Fatal(c, id, rise, seen, dead, e, f, "instead of", want, rest)
		}
		if len(dead) == 0 {
			all++
		} else if len(dead) > 4 {
			some++
		}
	}
	if all < 30 || some < 30 {
		t.Error("too seldom:", all, some)
	}
}

// The largest map with high ground: what a tower sees does not depend on haze, nor on how far it is.
func TestP4_6LargestMap(t *testing.T) {
	c := api.Country{Map: flat(49, 49, 4000), Towers: []api.Tower{{ID: 1, Height: 5}}, Haze: []api.Haze{{To: 1 << 20, Far: 0}}}
	if seen, e := ridge.Seen(c, 1, 0); e != api.OK || !slices.Equal(seen, allPlaces(c.Map)) {
		t.Error(len(seen), e)
	}
	if dead, e := ridge.Dead(c, 1, 0); e != api.OK || len(dead) != 0 {
		t.Error(dead, e)
	}
	for i := range c.Map.Ground {
		if i%49 == 7 {
			c.Map.Ground[i] -= 4000
		} else if i%49 == 6 {
			c.Map.Ground[i] -= 10
		}
	}
	dead, e := ridge.Dead(c, 1, 0)
	if want := chosen(c.Map, func(p api.Place) bool { return !plainFree(c.Map, at(0, 0), 5, p, 0) }); e != api.OK || !slices.Equal(dead, want) || len(want) < 40 {
		t.Error(dead, e, "instead of", want)
	}
}

func TestP4_7Far(t *testing.T) {
	for tick, want := range map[int]int{0: 0, 5: 0, 9: 0, 10: 2, 15: 2, 20: 2, 21: 100, 29: 100, 30: 100, 31: 100, 1<<20 - 1: 100, 1 << 20: 3} {
		if n, e := ridge.Far(country(), tick); n != want || e != api.OK {
			t.Error(tick, n, e)
		}
	}
	if n, e := ridge.Far(api.Country{Map: example()}, 7); n != 100 || e != api.OK {
		t.Error(n, e)
	}
	r := random(10)
	for range 500 {
		c := randomCountry(r, 2, 0)
		tick := randomTick(r)
		if n, e := ridge.Far(c, tick); n != plainFar(c, tick) || e != api.OK {
			t.Fatal(c, tick, n, e)
		}
	}
}

// The circle of what an eye sees has its edge in it, and its squares are compared exactly.
func TestP4_7SeesAsFarAsAnEye(t *testing.T) {
	for far := range 101 {
		c := api.Country{Map: flat(49, 49, 0), Towers: []api.Tower{{ID: 1, At: at(40, 8)}}, Haze: []api.Haze{{From: 5, To: 5, Far: far}}}
		for _, p := range []api.Place{at(40, 8), at(39, 8), at(40, 9), at(39, 9), at(37, 12), at(36, 5), at(44, 4), at(0, 8), at(0, 48), at(48, 0), at(12, 29), at(19, 28), at(40, 48)} {
			x, y := p.X-40, p.Y-8
			if is, e := ridge.Sees(c, 1, p, 0, 5); is != (x*x+y*y <= far*far) || e != api.OK {
				t.Error(far, p, is, e)
			}
			if is, e := ridge.Sees(c, 1, p, 0, 4); !is || e != api.OK {
				t.Error(far, p, is, e)
			}
		}
	}
}

func TestP4_7Sees(t *testing.T) {
	c := country()
	for _, x := range []struct {
		id         int
		p          api.Place
		rise, tick int
		is         bool
	}{
		{2, at(2, 0), 0, 25, true}, {2, at(2, 0), 0, 10, true}, {2, at(2, 0), 0, 20, true}, {2, at(2, 0), 0, 9, false}, {2, at(3, 0), 200, 10, false}, {2, at(3, 0), 200, 21, true}, {2, at(3, 0), 0, 21, false},
		{2, at(0, 0), 0, 0, true}, {2, at(1, 0), 0, 0, false}, {2, at(1, 1), 0, 15, true}, {2, at(1, 2), 0, 15, false}, {2, at(1, 2), 0, 22, true},
		{2, at(4, 0), 10, 30, true}, {2, at(4, 0), 9, 30, false}, {1, at(0, 0), 10, 31, true}, {1, at(0, 0), 10, 15, false}, {1 << 40, at(4, 0), 0, 15, false}, {1 << 40, at(4, 1), 0, 1 << 20, true}, {1 << 40, at(0, 0), 0, 1<<20 - 1, true},
	} {
		if is, e := ridge.Sees(c, x.id, x.p, x.rise, x.tick); is != x.is || e != api.OK {
			t.Error(x, is, e)
		}
	}
}

func TestP4_7Watchers(t *testing.T) {
	c := country()
	for _, x := range []struct {
		p          api.Place
		rise, tick int
		want       []int
	}{
		{at(2, 0), 0, 25, []int{1, 2, 1 << 40}}, {at(2, 0), 0, 15, []int{1, 2, 1 << 40}}, {at(4, 0), 0, 25, []int{1, 1 << 40}}, {at(4, 0), 10, 25, []int{1, 2, 1 << 40}}, {at(0, 0), 0, 15, []int{2}}, {at(0, 0), 0, 5, []int{2}}, {at(1, 0), 0, 5, nil}, {at(2, 2), 0, 5, []int{1 << 40}},
	} {
		if l, e := ridge.Watchers(c, x.p, x.rise, x.tick); !slices.Equal(l, x.want) || e != api.OK {
			t.Error(x, l, e)
		}
	}
	if l, e := ridge.Watchers(api.Country{Map: example()}, at(0, 0), 0, 0); len(l) != 0 || e != api.OK {
		t.Error(l, e)
	}
}

func TestP4_7Covered(t *testing.T) {
	c := country()
	for _, x := range []struct {
		rise, tick, towers int
		want               []api.Place
	}{
		{0, 5, 1, []api.Place{at(0, 0), at(4, 0), at(2, 2)}}, {0, 5, 2, nil}, {0, 15, 3, []api.Place{at(2, 0)}},
		{0, 15, 2, []api.Place{at(2, 0), at(1, 1), at(3, 1), at(0, 2), at(4, 2)}},
		{0, 25, 3, []api.Place{at(2, 0), at(2, 1), at(2, 2)}}, {0, 25, 4, nil}, {0, 25, 12, nil},
		{200, 25, 3, allPlaces(c.Map)}, {0, 25, 1, allPlaces(c.Map)},
	} {
		if l, e := ridge.Covered(c, x.rise, x.tick, x.towers); !slices.Equal(l, x.want) || e != api.OK {
			t.Error(x, l, e)
		}
	}
	full := api.Country{Map: flat(3, 2, 0), Towers: manyTowers(12)}
	for i := range full.Towers {
		full.Towers[i].At = at(i%3, i%2)
	}
	if l, e := ridge.Covered(full, 0, 0, 12); !slices.Equal(l, allPlaces(full.Map)) || e != api.OK {
		t.Error(l, e)
	}
	full.Towers = full.Towers[1:]
	if l, e := ridge.Covered(full, 0, 0, 12); len(l) != 0 || e != api.OK {
		t.Error(l, e)
	}
}

func TestP4_7RandomCountries(t *testing.T) {
	r := random(11)
	var hazy, blocked, seen, several int
	for range 200 {
		c := randomCountry(r, 8, 6)
		rise, tick, towers := randomTall(r), randomTick(r), 1+r.IntN(4)
		all := views(c, rise, tick)
		var want []api.Place
		for i, p := range allPlaces(c.Map) {
			if len(all[i]) >= towers {
				want = append(want, p)
			}
			if l, e := ridge.Watchers(c, p, rise, tick); !slices.Equal(l, all[i]) || e != api.OK {
				t.Fatal(c, p, rise, tick, l, e, "instead of", all[i])
			}
			for _, tower := range c.Towers {
				is, e := ridge.Sees(c, tower.ID, p, rise, tick)
				free := isFree(t, c.Map, tower.At, tower.Height, p, rise)
				if is != slices.Contains(all[i], tower.ID) || e != api.OK {
					t.Fatal(c, tower, p, rise, tick, is, e)
				}
				switch {
				case is:
					seen++
				case free:
					hazy++
				default:
					blocked++
				}
			}
		}
		if l, e := ridge.Covered(c, rise, tick, towers); !slices.Equal(l, want) || e != api.OK {
			t.Fatal(c, rise, tick, towers, l, e, "instead of", want)
		}
		if towers > 1 && len(want) > 0 && len(want) < len(all) {
			several++
		}
	}
	if hazy < 500 || blocked < 1000 || seen < 1000 || several < 20 {
		t.Error("too seldom:", hazy, blocked, seen, several)
	}
}

func TestP4_8Links(t *testing.T) {
	c := country()
	pair := func(height0, height1 int) [][2]int {
		c.Towers = []api.Tower{{ID: 9, At: at(0, 0), Height: height0}, {ID: 4, At: at(4, 0), Height: height1}}
		l, e := ridge.Links(c)
		mustBe(t, e, api.OK, height0, height1)
		return l
	}
	for _, x := range [][3]int{{10, 10, 1}, {9, 10, 0}, {10, 9, 0}, {9, 11, 1}, {20, 0, 1}, {0, 20, 1}, {19, 0, 0}} {
		if l := pair(x[0], x[1]); len(l) != x[2] || len(l) == 1 && l[0] != [2]int{4, 9} {
			t.Error(x, l)
		}
	}
	for _, x := range []struct {
		l    []api.Tower
		want [][2]int
	}{
		{nil, nil}, {[]api.Tower{{ID: 3}}, nil},
		{[]api.Tower{{ID: 3, At: at(1, 1)}, {ID: 2, At: at(1, 1), Height: 200}}, [][2]int{{2, 3}}},
		{country().Towers, [][2]int{{1, 2}, {1, 1 << 40}, {2, 1 << 40}}},
		{[]api.Tower{{ID: 30, At: at(0, 1)}, {ID: 20, At: at(1, 2)}, {ID: 40, At: at(3, 1)}, {ID: 10, At: at(4, 1)}}, [][2]int{{10, 40}, {20, 30}}},
	} {
		c.Towers = x.l
		if l, e := ridge.Links(c); !slices.Equal(l, x.want) || e != api.OK {
			t.Error(x, l, e)
		}
	}
}

func TestP4_8RandomLinks(t *testing.T) {
	r := random(12)
	linked, apart := 0, 0
	for range 400 {
		c := randomCountry(r, 12, 7)
		var want [][2]int
		for _, s := range c.Towers {
			for _, u := range c.Towers {
				if s.ID >= u.ID {
					continue
				}
				if plainFree(c.Map, s.At, s.Height, u.At, u.Height) {
					want = append(want, [2]int{s.ID, u.ID})
					linked++
				} else {
					apart++
				}
			}
		}
		slices.SortFunc(want, func(a, b [2]int) int { return slices.Compare(a[:], b[:]) })
		if l, e := ridge.Links(c); !slices.Equal(l, want) || e != api.OK {
			t.Fatal(c, l, e, "instead of", want)
		}
	}
	if linked < 300 || apart < 300 {
		t.Error("too seldom:", linked, apart)
	}
}
