package ridge_test

import (
	"math"
	"slices"
	"testing"

	"firetower/api"
	"firetower/ridge"
)

// wrongMaps returns maps that are not valid.
func wrongMaps() []api.Map {
	high, low := example(), example()
	high.Ground[14] = 4001
	low.Ground[0] = -1
	return []api.Map{
		{}, {Wide: 1, High: 1}, {Wide: 0, High: 5}, {Wide: 5, High: 0}, {Wide: 0, High: 0, Ground: []int{1}},
		flat(50, 1, 0), flat(1, 50, 0), flat(50, 50, 0), {Wide: -1, High: -1, Ground: []int{0}}, {Wide: -5, High: -3, Ground: example().Ground},
		{Wide: 5, High: 3, Ground: example().Ground[:14]}, {Wide: 5, High: 3, Ground: make([]int, 16)}, {Wide: 5, High: 2, Ground: example().Ground}, {Wide: 4, High: 3, Ground: example().Ground},
		{Wide: 1 << 32, High: 1 << 32}, {Wide: math.MaxInt, High: 2, Ground: make([]int, 2)}, {Wide: math.MinInt, High: math.MinInt}, {Wide: math.MinInt, High: 2}, {Wide: 2, High: math.MinInt},
		high, low, {Wide: 1, High: 1, Ground: []int{math.MaxInt}}, {Wide: 1, High: 1, Ground: []int{math.MinInt}},
	}
}

// wrongPlaces returns places that are not of the map of the examples.
func wrongPlaces() []api.Place {
	return []api.Place{at(-1, 0), at(0, -1), at(5, 0), at(0, 3), at(5, 3), at(-1, -1), at(2, 7), at(7, 1), at(math.MinInt, 0), at(0, math.MaxInt), at(math.MaxInt, math.MinInt)}
}

// wrongTalls returns numbers that are no heights above the ground.
func wrongTalls() []int { return []int{-1, 201, math.MinInt, math.MaxInt} }

// wrongTicks returns numbers that are no minutes.
func wrongTicks() []int { return []int{-1, 1<<20 + 1, math.MinInt, math.MaxInt} }

// country returns a right country on the map of the examples.
func country() api.Country {
	return api.Country{
		Map:    example(),
		Towers: []api.Tower{{ID: 2, Height: 10}, {ID: 1, At: at(4, 0), Height: 10}, {ID: 1 << 40, At: at(2, 2), Height: 200}},
		Haze:   []api.Haze{{From: 0, To: 9, Far: 0}, {From: 10, To: 20, Far: 2}, {From: 30, To: 30, Far: 100}, {From: 1 << 20, To: 1 << 20, Far: 3}},
	}
}

// wrongCountry is a country and its first error.
type wrongCountry struct {
	name string
	c    api.Country
	e    api.Errno
}

// wrongCountries returns countries that are not right.
func wrongCountries() []wrongCountry {
	var out []wrongCountry
	for _, m := range wrongMaps() {
		out = append(out, wrongCountry{"map", api.Country{Map: m}, api.ErrArg})
	}
	for _, x := range []struct {
		name   string
		e      api.Errno
		change func(c *api.Country)
	}{
		{"13 towers", api.ErrLimit, func(c *api.Country) { c.Towers = manyTowers(13) }},
		{"61 haze", api.ErrLimit, func(c *api.Country) { c.Haze = manyHaze(61) }},
		{"ID 0", api.ErrArg, func(c *api.Country) { c.Towers[1].ID = 0 }},
		{"ID -1", api.ErrArg, func(c *api.Country) { c.Towers[0].ID = -1 }},
		{"ID too great", api.ErrArg, func(c *api.Country) { c.Towers[2].ID = 1<<40 + 1 }},
		{"tower in the west", api.ErrArg, func(c *api.Country) { c.Towers[1].At.X = -1 }},
		{"tower in the east", api.ErrArg, func(c *api.Country) { c.Towers[0].At.X = 5 }},
		{"tower in the south", api.ErrArg, func(c *api.Country) { c.Towers[2].At.Y = -1 }},
		{"tower in the north", api.ErrArg, func(c *api.Country) { c.Towers[1].At.Y = 3 }},
		{"height -1", api.ErrArg, func(c *api.Country) { c.Towers[2].Height = -1 }},
		{"height 201", api.ErrArg, func(c *api.Country) { c.Towers[0].Height = 201 }},
		{"same ID", api.ErrTwice, func(c *api.Country) { c.Towers[2].ID = 2 }},
		{"same tower", api.ErrTwice, func(c *api.Country) { c.Towers[1] = c.Towers[0] }},
		{"haze from -1", api.ErrArg, func(c *api.Country) { c.Haze[0].From = -1 }},
		{"haze too late", api.ErrArg, func(c *api.Country) { c.Haze[3].To++ }},
		{"haze far too late", api.ErrArg, func(c *api.Country) { c.Haze[3].To = math.MaxInt }},
		{"haze before it begins", api.ErrArg, func(c *api.Country) { c.Haze[1].To = 9 }},
		{"first haze before it begins", api.ErrArg, func(c *api.Country) { c.Haze[0].From, c.Haze[0].To = 5, 4 }},
		{"haze long before it begins", api.ErrArg, func(c *api.Country) { c.Haze[2].To = -1 }},
		{"haze in the minute of another one", api.ErrArg, func(c *api.Country) { c.Haze[1].From = 9 }},
		{"haze inside of another one", api.ErrArg, func(c *api.Country) { c.Haze[2] = api.Haze{From: 12, To: 13} }},
		{"haze ahead of another one", api.ErrArg, func(c *api.Country) { c.Haze[0], c.Haze[1] = c.Haze[1], c.Haze[0] }},
		{"far -1", api.ErrArg, func(c *api.Country) { c.Haze[0].Far = -1 }},
		{"far 101", api.ErrArg, func(c *api.Country) { c.Haze[2].Far = 101 }},
	} {
		c := country()
		x.change(&c)
		out = append(out, wrongCountry{x.name, c, x.e})
	}
	return append(out, doublyWrong()...)
}

// doublyWrong returns countries with several errors, to tell which one comes first.
func doublyWrong() []wrongCountry {
	wrong, other := wrongMaps()[11], api.Tower{ID: 7, Height: 201}
	same := api.Tower{ID: 2}
	var out []wrongCountry
	for _, x := range []struct {
		name   string
		e      api.Errno
		change func(c *api.Country)
	}{
		{"map and 13 towers", api.ErrArg, func(c *api.Country) { c.Map, c.Towers = wrong, manyTowers(13) }},
		{"map and same ID", api.ErrArg, func(c *api.Country) { c.Map, c.Towers[1].ID = wrong, 2 }},
		{"13 towers, a wrong one first", api.ErrLimit, func(c *api.Country) { c.Towers = append(manyTowers(12), other); c.Towers[0].ID = 0 }},
		{"13 towers, one twice", api.ErrLimit, func(c *api.Country) { c.Towers = slices.Repeat([]api.Tower{same}, 13) }},
		{"61 haze and a wrong tower", api.ErrLimit, func(c *api.Country) { c.Haze, c.Towers[0] = manyHaze(61), other }},
		{"61 haze, a wrong one first", api.ErrLimit, func(c *api.Country) { c.Haze = manyHaze(61); c.Haze[0].Far = 101 }},
		{"twice, then wrong", api.ErrTwice, func(c *api.Country) { c.Towers[1], c.Towers[2] = same, other }},
		{"wrong, then twice", api.ErrArg, func(c *api.Country) { c.Towers[1], c.Towers[2] = other, same }},
		{"wrong and twice", api.ErrArg, func(c *api.Country) { c.Towers[1] = c.Towers[0]; c.Towers[1].Height = -1 }},
		{"twice and haze", api.ErrTwice, func(c *api.Country) { c.Towers[2], c.Haze[0].Far = same, 101 }},
	} {
		c := country()
		x.change(&c)
		out = append(out, wrongCountry{x.name, c, x.e})
	}
	return out
}

// manyTowers returns so many right towers on the map of the examples.
func manyTowers(n int) []api.Tower {
	var out []api.Tower
	for i := range n {
		out = append(out, api.Tower{ID: 1 + (i*5)%13, At: at(i%5, i%3), Height: i})
	}
	return out
}

// manyHaze returns so many right elements of haze.
func manyHaze(n int) []api.Haze {
	var out []api.Haze
	for i := range n {
		out = append(out, api.Haze{From: 2 * i, To: 2*i + i%2, Far: i})
	}
	return out
}

func TestP4_1Check(t *testing.T) {
	for _, x := range wrongCountries() {
		mustBe(t, ridge.Check(x.c), x.e, x.name, x.c)
	}
	full := api.Country{Map: example(), Towers: manyTowers(12), Haze: manyHaze(60)}
	tops := api.Country{Map: flat(49, 49, 4000), Towers: []api.Tower{{ID: 1 << 40, At: at(48, 48), Height: 200}, {ID: 1, At: at(48, 48)}}, Haze: []api.Haze{{To: 1 << 20, Far: 100}}}
	for _, c := range []api.Country{country(), full, tops, {Map: example()}, {Map: flat(1, 1, 0)}, {Map: flat(49, 1, 0)}, {Map: flat(1, 49, 4000)}} {
		mustBe(t, ridge.Check(c), api.OK, c)
	}
	r := random(1)
	for range 500 {
		c := randomCountry(r, 9, 12)
		mustBe(t, ridge.Check(c), api.OK, c)
	}
}

func TestP4_1On(t *testing.T) {
	for _, m := range []api.Map{example(), flat(1, 1, 0), flat(49, 49, 0), flat(2, 30, 0), {Wide: 5, High: 3}, {Wide: 60, High: 70}, {Wide: -2, High: -2}, {}} {
		for y := -3; y < 75; y++ {
			for x := -3; x < 75; x++ {
				if is := ridge.On(m, at(x, y)); is != (x >= 0 && x <= m.Wide-1 && y >= 0 && y <= m.High-1) {
					t.Error(m.Wide, m.High, x, y, is)
				}
			}
		}
	}
	for _, x := range []struct {
		wide, high int
		p          api.Place
		is         bool
	}{
		{math.MaxInt, 1, at(math.MaxInt-1, 0), true}, {math.MaxInt, 1, at(math.MaxInt, 0), false}, {1, math.MaxInt, at(0, math.MaxInt-1), true},
		{math.MinInt, 1, at(0, 0), false}, {1, math.MinInt, at(0, math.MaxInt), false}, {5, 5, at(math.MinInt, 0), false}, {5, 5, at(0, math.MinInt), false}, {math.MinInt, math.MinInt, at(math.MinInt, math.MinInt), false},
	} {
		if ridge.On(api.Map{Wide: x.wide, High: x.high}, x.p) != x.is {
			t.Error(x)
		}
	}
}

func TestP4_2Ground(t *testing.T) {
	for y, row := range [][]int{{0, 0, 10, 0, 0}, {0, 0, 20, 0, 0}, {0, 0, 30, 0, 0}} {
		for x, want := range row {
			if n, e := ridge.Ground(example(), at(x, y)); n != want || e != api.OK {
				t.Error(x, y, n, e)
			}
		}
	}
	r := random(2)
	for range 300 {
		m := randomMap(r, 49)
		p := randomPlace(r, m)
		if n, e := ridge.Ground(m, p); n != m.Ground[p.X+p.Y*m.Wide] || e != api.OK {
			t.Error(m, p, n, e)
		}
	}
}

func TestP4_2Raise(t *testing.T) {
	r := random(3)
	for range 300 {
		m := randomMap(r, 12)
		p, n := randomPlace(r, m), []int{0, 4000, r.IntN(4001)}[r.IntN(3)]
		got, e := ridge.Raise(m, p, n)
		if e != api.OK || got.Wide != m.Wide || got.High != m.High || len(got.Ground) != len(m.Ground) {
			t.Fatal(m, p, n, got, e)
		}
		for _, q := range allPlaces(m) {
			want := height(m, q)
			if q == p {
				want = n
			}
			if height(got, q) != want {
				t.Fatal(m, p, n, got)
			}
		}
	}
	for _, n := range []int{-1, 4001, math.MinInt, math.MaxInt} {
		m, e := ridge.Raise(example(), at(1, 1), n)
		if mustBe(t, e, api.ErrArg, n); m.Wide != 0 || m.High != 0 || m.Ground != nil {
			t.Error(m)
		}
	}
}

// ofMap calls all functions with a map and an error, and returns their errors; it fails if there is a result with one. All functions have a place a; those with a second one, or with heights, come last.
func ofMap(t *testing.T, m api.Map, a, b api.Place, up, rise int) []api.Errno {
	t.Helper()
	n, e0 := ridge.Ground(m, a)
	raised, e1 := ridge.Raise(m, a, 5)
	line, e2 := ridge.Line(m, a, b)
	far, e3 := ridge.Needed(m, a, up, b)
	tall, e4 := ridge.Tall(m, b, a, rise)
	is, e5 := ridge.Clear(m, a, up, b, rise)
	block, ok, e6 := ridge.Block(m, a, up, b, rise)
	e7 := ridge.CheckBlock(m, a, up, b, rise, api.Crossing{Step: 9})
	all := []api.Errno{e0, e1, e2, e3, e4, e5, e6, e7}
	got := []bool{n != 0, raised.Wide != 0 || raised.High != 0 || raised.Ground != nil, len(line) > 0, far != 0, tall != 0, is, ok || block != (api.Crossing{}), false}
	for i, e := range all {
		if e != api.OK && got[i] {
			t.Error("a result with an error:", i, m, a, b, up, rise)
		}
	}
	return all
}

func TestP4_2ErrorsOfMaps(t *testing.T) {
	ok := []api.Errno{api.OK, api.OK, api.OK, api.OK, api.OK, api.OK, api.OK, api.ErrProof}
	expect := func(what any, got []api.Errno, wrong ...int) {
		t.Helper()
		want := slices.Clone(ok)
		for _, i := range wrong {
			want[i] = api.ErrArg
		}
		if !slices.Equal(got, want) {
			t.Error(what, got, "instead of", want)
		}
	}
	a, b := at(4, 1), at(0, 2)
	expect("right", ofMap(t, example(), a, b, 0, 200))
	expect("right", ofMap(t, example(), b, a, 200, 0))
	for _, m := range wrongMaps() {
		expect(m, ofMap(t, m, at(0, 0), at(0, 0), 0, 0), 0, 1, 2, 3, 4, 5, 6, 7)
	}
	for _, p := range wrongPlaces() {
		expect(p, ofMap(t, example(), p, b, 0, 0), 0, 1, 2, 3, 4, 5, 6, 7)
		expect(p, ofMap(t, example(), a, p, 0, 0), 2, 3, 4, 5, 6, 7)
		expect(p, ofMap(t, example(), p, p, 0, 0), 0, 1, 2, 3, 4, 5, 6, 7)
	}
	for _, n := range wrongTalls() {
		expect(n, ofMap(t, example(), a, b, n, 0), 3, 5, 6, 7)
		expect(n, ofMap(t, example(), a, b, 0, n), 4, 5, 6, 7)
		expect(n, ofMap(t, example(), a, a, n, n), 3, 4, 5, 6, 7)
	}
}
