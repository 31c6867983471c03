package ridge_test

import (
	"math"
	"slices"
	"testing"

	"firetower/api"
	"firetower/ridge"
)

// walled returns a map of two rows that a wall parts into the columns up to a number, and those behind it.
func walled(wide, wall int) api.Map {
	m := flat(wide, 2, 0)
	m.Ground[wall], m.Ground[wall+wide] = 1000, 1000
	return m
}

func TestP4_9Best(t *testing.T) {
	hazy := []api.Haze{{From: 10, To: 19, Far: 1}, {From: 20, To: 29, Far: 0}}
	for _, x := range []struct {
		m                  api.Map
		towers             []api.Tower
		height, rise, tick int
		p                  api.Place
		n                  int
	}{
		{flat(4, 2, 0), nil, 0, 0, 0, at(0, 0), 8}, {flat(4, 2, 0), []api.Tower{{ID: 5}}, 200, 200, 0, at(0, 0), 0}, {flat(1, 1, 0), nil, 0, 0, 25, at(0, 0), 1},
		// On the wall both sides are seen, and the wall itself.
		{walled(7, 4), nil, 0, 0, 0, at(4, 0), 14}, {walled(7, 4), []api.Tower{{ID: 1}}, 0, 0, 0, at(4, 0), 4}, {walled(7, 4), []api.Tower{{ID: 1, At: at(6, 1)}}, 0, 0, 0, at(0, 0), 8}, {walled(7, 4), []api.Tower{{ID: 1}, {ID: 2, At: at(5, 0)}}, 0, 0, 0, at(0, 0), 0},
		{walled(7, 4), nil, 0, 0, 15, at(1, 0), 4}, {walled(7, 4), []api.Tower{{ID: 1, At: at(1, 0)}}, 0, 0, 15, at(4, 0), 4}, {walled(7, 4), []api.Tower{{ID: 1, At: at(1, 0)}}, 0, 0, 25, at(0, 0), 1}, {walled(7, 4), []api.Tower{{ID: 1}, {ID: 2, At: at(1, 0)}}, 0, 0, 25, at(2, 0), 1},
		// Heights of the tower and of what is seen both lift the line.
		{api.Map{Wide: 3, High: 1, Ground: []int{0, 10, 0}}, []api.Tower{{ID: 1, At: at(1, 0)}}, 0, 0, 25, at(0, 0), 1},
		{api.Map{Wide: 4, High: 1, Ground: []int{0, 10, 0, 0}}, nil, 9, 5, 0, at(1, 0), 4}, {api.Map{Wide: 4, High: 1, Ground: []int{0, 10, 0, 0}}, nil, 9, 5, 10, at(1, 0), 3},
		{api.Map{Wide: 4, High: 1, Ground: []int{0, 10, 10, 0}}, nil, 9, 5, 0, at(1, 0), 4}, {api.Map{Wide: 4, High: 1, Ground: []int{0, 10, 10, 0}}, nil, 10, 10, 0, at(0, 0), 4}, {api.Map{Wide: 4, High: 1, Ground: []int{0, 10, 10, 0}}, nil, 10, 9, 0, at(1, 0), 4}, {api.Map{Wide: 4, High: 1, Ground: []int{0, 10, 11, 0}}, nil, 0, 0, 0, at(1, 0), 3},
	} {
		c := api.Country{Map: x.m, Towers: x.towers, Haze: hazy}
		if p, n, e := ridge.Best(c, x.height, x.rise, x.tick); p != x.p || n != x.n || e != api.OK {
			t.Error(x, p, n, e)
		}
	}
}

func TestP4_9ErrorsOfBest(t *testing.T) {
	large := api.Country{Map: flat(7, 29, 0)}
	for _, x := range []struct {
		c                  api.Country
		height, rise, tick int
		e                  api.Errno
	}{
		{api.Country{Map: flat(10, 20, 0)}, 0, 0, 0, api.OK}, {api.Country{Map: flat(40, 5, 7), Towers: manyTowers(12)}, 200, 200, 1 << 20, api.OK}, {large, 0, 0, 0, api.ErrLimit}, {api.Country{Map: flat(49, 49, 0)}, 0, 0, 0, api.ErrLimit},
		{large, 201, 0, 0, api.ErrArg}, {large, -1, 0, 0, api.ErrArg}, {large, 0, 201, 0, api.ErrArg}, {large, 0, -1, 0, api.ErrArg}, {large, 0, 0, -1, api.ErrArg}, {large, 0, 0, 1<<20 + 1, api.ErrArg}, {large, math.MaxInt, math.MinInt, 0, api.ErrArg},
		{api.Country{Map: flat(7, 29, 0), Towers: []api.Tower{{ID: 1}, {ID: 1}}}, 0, 0, 0, api.ErrTwice}, {api.Country{Map: flat(7, 29, 0), Towers: manyTowers(13)}, 0, 0, 0, api.ErrLimit}, {api.Country{Map: flat(7, 29, 0), Towers: []api.Tower{{ID: 1}, {ID: 1}}}, 201, 0, 0, api.ErrTwice},
	} {
		p, n, e := ridge.Best(x.c, x.height, x.rise, x.tick)
		mustBe(t, e, x.e, x)
		if e != api.OK && (p != api.Place{} || n != 0) {
			t.Error(x, p, n)
		}
	}
}

func TestP4_9RandomCountries(t *testing.T) {
	r := random(13)
	moved := 0
	for range 160 {
		c := randomCountry(r, 6, 3)
		height, rise, tick := randomTall(r), randomTall(r), randomTick(r)
		p, n, e := ridge.Best(c, height, rise, tick)
		q, k := plainBest(c, height, rise, tick)
		if p != q || n != k || e != api.OK {
			t.Fatal(c, height, rise, tick, p, n, e, "instead of", q, k)
		}
		if p != at(0, 0) {
			moved++
		}
	}
	if moved < 40 {
		t.Error("too seldom:", moved)
	}
}

func TestP4_10SpareAndFewest(t *testing.T) {
	tower := func(id, x int) api.Tower { return api.Tower{ID: id, At: at(x, 1)} }
	hazy := []api.Haze{{From: 10, To: 19, Far: 1}, {From: 20, To: 29, Far: 0}, {From: 30, To: 39, Far: 2}}
	for _, x := range []struct {
		m             api.Map
		towers        []api.Tower
		tick          int
		spare, fewest []int
	}{
		{flat(4, 2, 0), nil, 0, nil, nil}, {flat(4, 2, 0), []api.Tower{tower(7, 2)}, 0, nil, []int{7}}, {flat(4, 2, 0), []api.Tower{tower(7, 2), tower(5, 3)}, 0, []int{5, 7}, []int{5}},
		{flat(4, 2, 0), []api.Tower{tower(1<<40, 2), tower(1<<40-1, 2)}, 25, []int{1<<40 - 1, 1 << 40}, []int{1<<40 - 1}},
		{flat(4, 2, 0), []api.Tower{tower(4, 0), tower(3, 1), tower(2, 3)}, 25, nil, []int{2, 3, 4}},
		// Each side of the wall needs a tower; one on the wall sees both.
		{walled(7, 4), []api.Tower{tower(3, 0), tower(1, 6), tower(2, 5)}, 0, []int{1, 2}, []int{1, 3}},
		{walled(7, 4), []api.Tower{tower(3, 0), tower(1, 6), tower(9, 4)}, 0, []int{1, 3, 9}, []int{9}},
		{walled(7, 4), []api.Tower{tower(3, 0), tower(1, 6), tower(9, 4), tower(8, 4)}, 0, []int{1, 3, 8, 9}, []int{8}},
		// Each of both is spare, but not both together.
		{flat(5, 2, 0), []api.Tower{tower(6, 1), tower(4, 1), tower(5, 3)}, 15, []int{4, 6}, []int{4, 5}},
		{flat(4, 2, 0), []api.Tower{tower(1, 1), tower(2, 2)}, 15, nil, []int{1, 2}}, {flat(7, 2, 0), []api.Tower{tower(1, 3), tower(2, 3), {ID: 4, At: at(2, 0)}, {ID: 3, At: at(4, 0)}}, 15, []int{1, 2}, []int{1, 3, 4}},
		// The tower in the middle sees the most places, but it is not one of the fewest.
		{flat(8, 1, 0), []api.Tower{{ID: 1, At: at(3, 0)}, {ID: 3, At: at(1, 0)}, {ID: 2, At: at(6, 0)}}, 35, []int{1}, []int{2, 3}},
	} {
		c := api.Country{Map: x.m, Towers: x.towers, Haze: hazy}
		if l, e := ridge.Spare(c, 0, x.tick); !slices.Equal(l, x.spare) || e != api.OK {
			t.Error("Spare:", x, l, e)
		}
		if l, e := ridge.Fewest(c, 0, x.tick); !slices.Equal(l, x.fewest) || e != api.OK {
			t.Error("Fewest:", x, l, e)
		}
	}
}

// Where a tower sees only what is beside it, the lists of as few towers as possible are many, and the least one is not that of the towers that see the most.
func TestP4_10ManyChoices(t *testing.T) {
	r := random(14)
	spares, fewer, choice := 0, 0, 0
	for range 150 {
		c := api.Country{Map: randomMap(r, 7), Haze: []api.Haze{{To: 100, Far: 1 + r.IntN(3)}}}
		for _, id := range randomIDs(r, 1+r.IntN(9)) {
			c.Towers = append(c.Towers, api.Tower{ID: id, At: randomPlace(r, c.Map), Height: randomTall(r)})
		}
		rise, tick := randomTall(r), 2*r.IntN(100)
		spare, e := ridge.Spare(c, rise, tick)
		fewest, f := ridge.Fewest(c, rise, tick)
		if want := plainSpare(c, rise, tick); !slices.Equal(spare, want) || e != api.OK {
			t.Fatal("Spare:", c, rise, tick, spare, e, "instead of", want)
		}
		if want := plainFewest(c, rise, tick); !slices.Equal(fewest, want) || f != api.OK {
			t.Fatal("Fewest:", c, rise, tick, fewest, f, "instead of", want)
		}
		spares += len(spare)
		fewer += len(c.Towers) - len(fewest)
		if len(fewest) > 1 && fewest[0] != slices.Min(ids(c)) {
			choice++
		}
	}
	if spares < 100 || fewer < 100 || choice < 10 {
		t.Error("too seldom:", spares, fewer, choice)
	}
}

// All 12 towers are needed on a map of no less than 12 places that are seen from nowhere else.
func TestP4_10AllTowersAreNeeded(t *testing.T) {
	c := api.Country{Map: flat(49, 49, 0), Haze: []api.Haze{{Far: 4}}}
	for i := range 12 {
		c.Towers = append(c.Towers, api.Tower{ID: 1 + i*5%13, At: at(12*(i%4), 20*(i/4))})
	}
	if l, e := ridge.Spare(c, 0, 0); len(l) != 0 || e != api.OK {
		t.Error(l, e)
	}
	if l, e := ridge.Fewest(c, 0, 0); !slices.Equal(l, ids(c)) || e != api.OK {
		t.Error(l, e)
	}
	if l, e := ridge.Fewest(c, 0, 1); !slices.Equal(l, ids(c)[:1]) || e != api.OK {
		t.Error(l, e)
	}
}

func TestP4_11Smallest(t *testing.T) {
	for _, x := range []struct {
		f, want api.Fraction
		e       api.Errno
	}{
		{part(-6, 4), part(-3, 2), api.OK}, {part(6, 4), part(3, 2), api.OK}, {part(0, 5), part(0, 1), api.OK}, {part(0, 1<<20), part(0, 1), api.OK}, {part(7, 7), part(1, 1), api.OK}, {part(-7, 7), part(-1, 1), api.OK}, {part(35, 6), part(35, 6), api.OK}, {part(12, 1), part(12, 1), api.OK},
		{part(1<<40, 1<<20), part(1<<20, 1), api.OK}, {part(-1<<40, 1<<20), part(-1<<20, 1), api.OK}, {part(-1<<40, 1<<20-1), part(-1<<40, 1<<20-1), api.OK}, {part(1<<40-1, 1<<20), part(1<<40-1, 1<<20), api.OK}, {part(1, 1<<20), part(1, 1<<20), api.OK},
		{part(0, 0), part(0, 0), api.ErrArg}, {part(5, 0), part(0, 0), api.ErrArg}, {part(5, -1), part(0, 0), api.ErrArg}, {part(5, 1<<20+1), part(0, 0), api.ErrArg}, {part(1<<40+1, 1), part(0, 0), api.ErrArg}, {part(-1<<40-1, 1), part(0, 0), api.ErrArg},
		{part(2, 1<<21), part(0, 0), api.ErrArg}, {part(1<<41, 2), part(0, 0), api.ErrArg}, {part(math.MinInt, 2), part(0, 0), api.ErrArg}, {part(math.MaxInt, 2), part(0, 0), api.ErrArg}, {part(2, math.MinInt), part(0, 0), api.ErrArg}, {part(2, math.MaxInt), part(0, 0), api.ErrArg},
	} {
		if f, e := ridge.Smallest(x.f); f != x.want || e != x.e {
			t.Error(x, f, e)
		}
	}
	for num := -40; num <= 40; num++ {
		for den := 1; den <= 40; den++ {
			least := 1
			for num*least%den != 0 {
				least++
			}
			if f, e := ridge.Smallest(part(num, den)); f != part(num*least/den, least) || e != api.OK {
				t.Error(num, den, f, e)
			}
		}
	}
}

func TestP4_11Compare(t *testing.T) {
	for _, x := range []struct {
		a, b api.Fraction
		want int
		e    api.Errno
	}{
		{part(1, 3), part(2, 5), -1, api.OK}, {part(2, 5), part(1, 3), 1, api.OK}, {part(2, 6), part(3, 9), 0, api.OK}, {part(0, 3), part(0, 1<<20), 0, api.OK}, {part(-1, 3), part(-2, 5), 1, api.OK}, {part(-1, 3), part(1, 3), -1, api.OK}, {part(-4, 6), part(-2, 3), 0, api.OK},
		{part(1<<40, 1<<20), part(1<<40, 1<<20-1), -1, api.OK}, {part(-1<<40, 1<<20), part(-1<<40, 1<<20-1), 1, api.OK}, {part(1<<40, 1), part(1<<40-1, 1), 1, api.OK}, {part(1<<40, 1), part(-1<<40, 1), 1, api.OK}, {part(-1<<40, 1), part(1<<40, 1), -1, api.OK}, {part(1<<40, 1), part(1<<40, 1<<20), 1, api.OK}, {part(-1<<40, 1), part(-1<<40, 1<<20), -1, api.OK}, {part(1<<40-1, 1<<20-1), part(1<<40, 1<<20), 1, api.OK},
		{part(0, 0), part(1, 1), 0, api.ErrArg}, {part(1, 1), part(0, 0), 0, api.ErrArg}, {part(2, -1), part(1, 1), 0, api.ErrArg}, {part(1, 1), part(2, -1), 0, api.ErrArg}, {part(1, 1<<20+1), part(1, 1), 0, api.ErrArg}, {part(1, 1), part(0, 1<<20+1), 0, api.ErrArg},
		{part(1<<40+1, 1), part(1, 1), 0, api.ErrArg}, {part(1, 1), part(1<<40+1, 1), 0, api.ErrArg}, {part(-1<<40-1, 1), part(1, 1), 0, api.ErrArg}, {part(1, 1), part(-1<<40-1, 1), 0, api.ErrArg}, {part(math.MinInt, 1), part(1, 1), 0, api.ErrArg}, {part(1, 1), part(1, math.MaxInt), 0, api.ErrArg},
	} {
		if n, e := ridge.Compare(x.a, x.b); n != x.want || e != x.e {
			t.Error(x, n, e)
		}
	}
	r := random(15)
	equal := 0
	for range 5000 {
		most := []int{3, 12, 1 << 20}[r.IntN(3)]
		a, b := part(r.IntN(2*most+1)-most, 1+r.IntN(most)), part(r.IntN(2*most+1)-most, 1+r.IntN(most))
		want := rat(a).Cmp(rat(b))
		if n, e := ridge.Compare(a, b); n != want || e != api.OK {
			t.Fatal(a, b, n, e, "instead of", want)
		}
		if want == 0 {
			equal++
		}
		f, e := ridge.Smallest(a)
		if f != fractionOf(rat(a)) || e != api.OK {
			t.Fatal(a, f, e)
		}
	}
	if equal < 100 {
		t.Error("too seldom:", equal)
	}
}
