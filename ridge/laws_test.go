package ridge_test

import (
	"math/rand/v2"
	"slices"
	"testing"

	"firetower/api"
	"firetower/ridge"
)

// clear is Clear of a sight.
func (s sight) clear(t *testing.T) bool {
	t.Helper()
	return isFree(t, s.m, s.a, s.up, s.b, s.rise)
}

func TestP4_12BothWays(t *testing.T) {
	r := random(20)
	free, blocked := 0, 0
	for i := range 4000 {
		s := randomSight(r, []int{5, 9, 49}[i%3])
		is := s.clear(t)
		if (sight{s.m, s.b, s.a, s.rise, s.up}).clear(t) != is {
			t.Fatal(s, is)
		}
		if is {
			free++
		} else {
			blocked++
		}
	}
	if free < 500 || blocked < 500 {
		t.Error("too seldom:", free, blocked)
	}
}

func TestP4_12StaysFree(t *testing.T) {
	r := random(21)
	free := 0
	for i := range 4000 {
		s := randomSight(r, []int{5, 9, 20}[i%3])
		if !s.clear(t) {
			continue
		}
		free++
		more := s
		more.up, more.rise = s.up+r.IntN(201-s.up), s.rise+r.IntN(201-s.rise)
		if !more.clear(t) {
			t.Fatal("with greater heights:", s, more)
		}
		for range 5 {
			p := randomPlace(r, s.m)
			if p == s.a || p == s.b {
				continue
			}
			lower, e := ridge.Raise(s.m, p, r.IntN(height(s.m, p)+1))
			if mustBe(t, e, api.OK, p); !(sight{lower, s.a, s.b, s.up, s.rise}).clear(t) {
				t.Fatal("with lower ground:", s, p, lower)
			}
			s.m = lower
		}
	}
	if free < 500 {
		t.Error("too seldom:", free)
	}
}

// What lies at both ends does not matter: a line that only just touches their ground is free, from however deep a place.
func TestP4_12EndsDoNotMatter(t *testing.T) {
	m := api.Map{Wide: 3, High: 3, Ground: []int{4000, 0, 0, 0, 0, 0, 0, 0, 4000}}
	for _, p := range allPlaces(m) {
		for _, n := range []int{0, 1, 200} {
			if !isFree(t, m, p, n, p, 0) || !isFree(t, m, p, 0, p, n) {
				t.Error(p, n)
			}
		}
	}
	if !isFree(t, m, at(0, 0), 0, at(2, 2), 0) || !isFree(t, m, at(0, 0), 0, at(1, 1), 0) || !isFree(t, m, at(0, 1), 0, at(0, 0), 0) {
		t.Error("ends")
	}
}

func TestP4_13LeastHeights(t *testing.T) {
	r := random(22)
	some, much := 0, 0
	for i := range 4000 {
		s := randomSight(r, []int{5, 9, 49}[i%3])
		rise, e := ridge.Needed(s.m, s.a, s.up, s.b)
		mustBe(t, e, api.OK, s)
		up, e := ridge.Tall(s.m, s.a, s.b, s.rise)
		mustBe(t, e, api.OK, s)
		for _, n := range []int{0, rise - 1, rise, rise + 1, up - 1, up, up + 1, 200} {
			if n < 0 || n > 200 {
				continue
			}
			if (sight{s.m, s.a, s.b, s.up, n}).clear(t) != (n >= rise) || (sight{s.m, s.a, s.b, n, s.rise}).clear(t) != (n >= up) {
				t.Fatal(s, n, rise, up)
			}
		}
		if rise > 200 {
			much++
		} else if rise > 0 {
			some++
		}
	}
	if some < 300 || much < 100 {
		t.Error("too seldom:", some, much)
	}
}

func TestP4_14Blocks(t *testing.T) {
	r := random(23)
	free, blocked := 0, 0
	for range 2000 {
		s := randomSight(r, 10)
		line, e := ridge.Line(s.m, s.a, s.b)
		mustBe(t, e, api.OK, s)
		x, is, e := ridge.Block(s.m, s.a, s.up, s.b, s.rise)
		mustBe(t, e, api.OK, s)
		accepted := 0
		for _, y := range someCrossings(11) {
			if ridge.CheckBlock(s.m, s.a, s.up, s.b, s.rise, y) != api.OK {
				continue
			}
			accepted++
			if !slices.ContainsFunc(line, func(p api.Profile) bool { return p.Cross == y }) {
				t.Fatal(s, y, "is no crossing")
			}
		}
		if s.clear(t) != (accepted == 0) || is != (accepted > 0) {
			t.Fatal(s, is, accepted)
		}
		if is {
			blocked++
			mustBe(t, ridge.CheckBlock(s.m, s.a, s.up, s.b, s.rise, x), api.OK, s, x)
		} else {
			free++
		}
	}
	if free < 500 || blocked < 500 {
		t.Error("too seldom:", free, blocked)
	}
}

// mirror says where a place of a map stands when the map is turned over.
type mirror func(m api.Map, p api.Place) api.Place

func mirrors() []mirror {
	return []mirror{
		func(m api.Map, p api.Place) api.Place { return at(m.Wide-1-p.X, p.Y) },
		func(m api.Map, p api.Place) api.Place { return at(p.X, m.High-1-p.Y) },
		func(m api.Map, p api.Place) api.Place { return at(m.Wide-1-p.X, m.High-1-p.Y) },
		func(m api.Map, p api.Place) api.Place { return at(p.Y, p.X) },
		func(m api.Map, p api.Place) api.Place { return at(m.High-1-p.Y, p.X) },
	}
}

// mirrored returns a map that is turned over.
func mirrored(m api.Map, to mirror) api.Map {
	out := m
	if far := to(m, at(m.Wide-1, m.High-1)); max(far.X, to(m, at(0, 0)).X) != m.Wide-1 || max(far.Y, to(m, at(0, 0)).Y) != m.High-1 {
		out.Wide, out.High = m.High, m.Wide
	}
	out.Ground = make([]int, len(m.Ground))
	for _, p := range allPlaces(m) {
		q := to(m, p)
		out.Ground[q.Y*out.Wide+q.X] = height(m, p)
	}
	return out
}

// inOrder sorts places by Y, then by X.
func inOrder(l []api.Place) []api.Place {
	slices.SortFunc(l, func(p, q api.Place) int {
		if p.Y != q.Y {
			return p.Y - q.Y
		}
		return p.X - q.X
	})
	return l
}

// mirroredPlaces returns where places of a map stand when it is turned over, in order.
func mirroredPlaces(m api.Map, l []api.Place, to mirror) []api.Place {
	var out []api.Place
	for _, p := range l {
		out = append(out, to(m, p))
	}
	return inOrder(out)
}

func TestP4_15MirroredLines(t *testing.T) {
	r := random(24)
	for range 800 {
		s := randomSight(r, 12)
		for i, to := range mirrors() {
			other := sight{mirrored(s.m, to), to(s.m, s.a), to(s.m, s.b), s.up, s.rise}
			n, _ := ridge.Needed(s.m, s.a, s.up, s.b)
			k, e := ridge.Needed(other.m, other.a, other.up, other.b)
			if mustBe(t, e, api.OK, other); other.clear(t) != s.clear(t) || n != k {
				t.Fatal(i, s, other, n, k)
			}
			n, _ = ridge.Tall(s.m, s.a, s.b, s.rise)
			if k, e := ridge.Tall(other.m, other.a, other.b, other.rise); n != k || e != api.OK {
				t.Fatal(i, s, other, n, k)
			}
			line, _ := ridge.Line(s.m, s.a, s.b)
			got, e := ridge.Line(other.m, other.a, other.b)
			if mustBe(t, e, api.OK, other); i < 3 && !slices.Equal(line, got) || len(line) != len(got) {
				t.Fatal(i, s, other, line, got)
			}
		}
	}
}

func TestP4_15MirroredCountries(t *testing.T) {
	r := random(25)
	for range 150 {
		c := randomCountry(r, 7, 5)
		rise, tick := randomTall(r), randomTick(r)
		for i, to := range mirrors() {
			d := c
			d.Map, d.Towers = mirrored(c.Map, to), slices.Clone(c.Towers)
			for j := range d.Towers {
				d.Towers[j].At = to(c.Map, c.Towers[j].At)
			}
			for _, x := range c.Towers {
				a, _ := ridge.Seen(c, x.ID, rise)
				b, e := ridge.Seen(d, x.ID, rise)
				if want := mirroredPlaces(c.Map, a, to); e != api.OK || !slices.Equal(b, want) {
					t.Fatal(i, c, x, rise, b, want)
				}
			}
			a, _ := ridge.Covered(c, rise, tick, 1)
			b, e := ridge.Covered(d, rise, tick, 1)
			if want := mirroredPlaces(c.Map, a, to); e != api.OK || !slices.Equal(b, want) {
				t.Fatal(i, c, rise, tick, b, want)
			}
			links, _ := ridge.Links(c)
			others, e := ridge.Links(d)
			if e != api.OK || !slices.Equal(links, others) {
				t.Fatal(i, c, links, others)
			}
		}
	}
}

// lit returns the places that at least one tower sees in a minute.
func lit(t *testing.T, c api.Country, rise, tick int) []api.Place {
	t.Helper()
	l, e := ridge.Covered(c, rise, tick, 1)
	mustBe(t, e, api.OK, c, rise, tick)
	return l
}

// holds reports whether all of some places are among others.
func holds(l, some []api.Place) bool {
	return !slices.ContainsFunc(some, func(p api.Place) bool { return !slices.Contains(l, p) })
}

func TestP4_16Farther(t *testing.T) {
	r := random(26)
	more := 0
	for range 200 {
		c := randomCountry(r, 8, 4)
		rise, a, b := randomTall(r), randomTick(r), randomTick(r)
		m, _ := ridge.Far(c, a)
		n, _ := ridge.Far(c, b)
		if m > n {
			a, b = b, a
		}
		for _, x := range c.Towers {
			for _, p := range allPlaces(c.Map) {
				less, e := ridge.Sees(c, x.ID, p, rise, a)
				mustBe(t, e, api.OK)
				is, e := ridge.Sees(c, x.ID, p, rise, b)
				mustBe(t, e, api.OK)
				if less && !is {
					t.Fatal(c, x, p, rise, a, b)
				}
				if is && !less {
					more++
				}
			}
		}
	}
	if more < 200 {
		t.Error("too seldom:", more)
	}
}

// further returns a country with one tower more.
func further(c api.Country, x api.Tower) api.Country {
	c.Towers = append(slices.Clone(c.Towers), x)
	return c
}

// freeID returns an ID that no tower has.
func freeID(r *rand.Rand, c api.Country) int {
	for {
		if id := randomIDs(r, 1)[0]; !slices.Contains(ids(c), id) {
			return id
		}
	}
}

func TestP4_16FurtherTowers(t *testing.T) {
	r := random(27)
	more := 0
	for range 400 {
		c := randomCountry(r, 8, 5)
		rise, tick := randomTall(r), randomTick(r)
		before := lit(t, c, rise, tick)
		after := lit(t, further(c, api.Tower{ID: freeID(r, c), At: randomPlace(r, c.Map), Height: randomTall(r)}), rise, tick)
		if !holds(after, before) {
			t.Fatal(c, rise, tick, before, after)
		}
		if len(after) > len(before) {
			more++
		}
	}
	if more < 50 {
		t.Error("too seldom:", more)
	}
}

func TestP4_16Fewest(t *testing.T) {
	r := random(28)
	fewer := 0
	for range 120 {
		c := randomCountry(r, 7, 6)
		rise, tick := randomTall(r), randomTick(r)
		all := lit(t, c, rise, tick)
		l, e := ridge.Fewest(c, rise, tick)
		if mustBe(t, e, api.OK, c); !slices.Equal(lit(t, with(c, l), rise, tick), all) {
			t.Fatal(c, rise, tick, l)
		}
		for _, other := range choices(ids(c)) {
			if len(other) < len(l) && slices.Equal(lit(t, with(c, other), rise, tick), all) {
				t.Fatal(c, rise, tick, l, other)
			}
		}
		spare, e := ridge.Spare(c, rise, tick)
		mustBe(t, e, api.OK, c)
		for _, id := range ids(c) {
			if slices.Contains(spare, id) != slices.Equal(lit(t, without(c, id), rise, tick), all) {
				t.Fatal(c, rise, tick, spare, id)
			}
		}
		if len(l) > 0 && len(l) < len(c.Towers) {
			fewer++
		}
	}
	if fewer < 30 {
		t.Error("too seldom:", fewer)
	}
}

func TestP4_17Sites(t *testing.T) {
	r := random(29)
	gains := 0
	for range 150 {
		c := randomCountry(r, 7, 4)
		tall, rise, tick := randomTall(r), randomTall(r), randomTick(r)
		p, n, e := ridge.Best(c, tall, rise, tick)
		mustBe(t, e, api.OK, c)
		before := len(lit(t, c, rise, tick))
		for _, q := range allPlaces(c.Map) {
			more := len(lit(t, further(c, api.Tower{ID: freeID(r, c), At: q, Height: tall}), rise, tick)) - before
			if q == p && more != n || more > n {
				t.Fatal(c, tall, rise, tick, p, n, q, more)
			}
		}
		if n > 0 {
			gains++
		}
	}
	if gains < 60 {
		t.Error("too seldom:", gains)
	}
}
