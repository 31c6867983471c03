package circle_test

import (
	"slices"
	"testing"

	"firetower/api"
	"firetower/circle"
)

func TestP5_13DirectionsLieBetweenDivisions(t *testing.T) {
	for _, from := range []api.Place{at(24, 24), at(0, 0), at(48, 0), at(48, 48), at(0, 48)} {
		for _, p := range allPlaces() {
			if p == from {
				continue
			}
			d, _ := circle.Division(from, p)
			next := (d + 1) % 3600
			b := plainBearing(from, p)
			if !circle.Lies(wedge(d, next), from, p) || circle.Lies(wedge(next, (next+1)%3600), from, p) {
				t.Fatal(from, p, d)
			}
			if exact := b.num%b.den == 0; circle.Lies(wedge(d, d), from, p) != exact || circle.Lies(wedge(rest(d-1), d), from, p) != exact {
				t.Fatal(from, p, d, exact)
			}
		}
	}
}

func TestP5_13MeetAndWiden(t *testing.T) {
	r := random(50)
	both, one, wider := 0, 0, 0
	for range 20000 {
		a, from := randomWedge(r), randomPlace(r)
		b := wedge(rest(a.From+r.IntN(1000)-500), rest(a.From+400+r.IntN(500)))
		m, ok := circle.Meet(a, b)
		w, can := circle.Widen(a, r.IntN(200))
		for range 5 {
			p := otherPlace(r, from)
			inA, inB := circle.Lies(a, from, p), circle.Lies(b, from, p)
			if (ok && circle.Lies(m, from, p)) != (inA && inB) {
				t.Fatal(a, b, from, p, m, ok)
			}
			if can && inA && !circle.Lies(w, from, p) {
				t.Fatal(a, w, from, p)
			}
			if can && !inA && circle.Lies(w, from, p) {
				wider++
			}
			if inA && inB {
				both++
			} else if inA {
				one++
			}
		}
	}
	counted(t, "places in both", both, 1000)
	counted(t, "places in one", one, 1000)
	counted(t, "places only in the wider one", wider, 1000)
}

// fulfils returns the signs of what a place is beyond two half-planes.
func fulfils(l [2]api.Half, p api.Place) (bool, bool) {
	first, second := l[0].A*p.X+l[0].B*p.Y-l[0].C, l[1].A*p.X+l[1].B*p.Y-l[1].C
	return first <= 0 && second <= 0, first == 0 && second == 0
}

func TestP5_14HalfPlanes(t *testing.T) {
	r := random(51)
	lies, edge := 0, 0
	for i := range 500 {
		w, from := randomWedge(r), randomPlace(r)
		if i%3 == 0 {
			d, _ := circle.Division(from, otherPlace(r, from))
			w = wedge(d, rest(d+1+r.IntN(900)))
		}
		l, ok := circle.Halves(w, from)
		if ok != (w.From != w.To) {
			t.Fatal(w, from, l)
		}
		if !ok {
			continue
		}
		for _, p := range allPlaces() {
			in, equal := fulfils(l, p)
			if p == from {
				if !in || !equal {
					t.Fatal(w, from, l)
				}
				continue
			}
			if in != circle.Lies(w, from, p) {
				t.Fatal(w, from, l, p, in)
			}
			if in {
				lies++
			}
			if in && (l[0].A*p.X+l[0].B*p.Y == l[0].C || l[1].A*p.X+l[1].B*p.Y == l[1].C) {
				edge++
			}
		}
	}
	counted(t, "places in wedges", lies, 10000)
	counted(t, "places at the edge", edge, 500)
}

func TestP5_14WidestWedges(t *testing.T) {
	for from := range 3600 {
		w := wedge(from, (from+900)%3600)
		l, ok := circle.Halves(w, at(24, 24))
		for x := range 49 {
			for _, p := range []api.Place{at(x, 0), at(x, 48), at(0, x), at(48, x)} {
				if in, _ := fulfils(l, p); !ok || in != circle.Lies(w, at(24, 24), p) {
					t.Fatal(w, p, l, in)
				}
			}
		}
	}
}

// The least zero rests on one thing, less the drift: the spans that Alone tells of checks, and that of the beginning.
func TestP5_15ZerosByTheirThings(t *testing.T) {
	r := random(52)
	for range 1500 {
		c, _ := randomCircles(r, kind{circles: 3, checks: 12, long: []int{5, 300, 1 << 20}[r.IntN(3)]})
		x := c.Circles[r.IntN(len(c.Circles))]
		tick := minuteOf(r, x)
		n := drifted(x.Drift, x.From, tick)
		want := span(max(-300, x.Zero.Lo-n), min(300, x.Zero.Hi+n))
		for _, k := range c.Checks {
			if k.Circle == x.ID {
				s, _ := circle.Alone(c, k.ID)
				n := drifted(x.Drift, k.Tick, tick)
				want = span(max(want.Lo, s.Lo-n), min(want.Hi, s.Hi+n))
			}
		}
		if got, e := circle.Zero(c, x.ID, tick); e != api.OK || got != want {
			t.Fatal(c, x.ID, tick, got, e, "instead of", want)
		}
	}
}

func TestP5_15EndsArePossible(t *testing.T) {
	r := random(53)
	between := 0
	for range 300 {
		c, _ := randomCircles(r, kind{circles: 2, checks: 8, long: []int{5, 300, 3000}[r.IntN(3)]})
		x := c.Circles[r.IntN(len(c.Circles))]
		ticks := minutesOf(r, x)
		lowest, _ := circle.Lowest(c, x.ID, ticks)
		highest, _ := circle.Highest(c, x.ID, ticks)
		for _, z := range []api.Zeros{lowest, highest} {
			if n, ok := circle.Fits(c, z); !ok || n != -1 {
				t.Fatal(c, z, n, ok)
			}
		}
		for i, lo := range lowest.Zero {
			for _, z := range []int{lo - 1, lo, lo + r.IntN(highest.Zero[i]-lo+1), highest.Zero[i], highest.Zero[i] + 1} {
				n, ok := circle.Fits(c, api.Zeros{Circle: x.ID, Tick: ticks.Lo + i, Zero: []int{z}})
				if in := z >= lo && z <= highest.Zero[i]; ok != in || in && n != -1 || !in && n != ticks.Lo+i {
					t.Fatal(c, x.ID, ticks.Lo+i, z, n, ok)
				}
				if z > lo && z < highest.Zero[i] {
					between++
				}
			}
		}
	}
	counted(t, "zeros between", between, 1000)
}

// Each zero between the least and the greatest one occurs in zeros that are possible in all minutes.
func TestP5_15EachZeroBetweenOccurs(t *testing.T) {
	r := random(54)
	several := 0
	for range 1500 {
		c := fewMinutes(r)
		for _, x := range c.Circles {
			l := sequences(c, x.ID)
			if len(l) == 0 {
				continue
			}
			for tick := x.From; tick <= x.To; tick++ {
				s, _ := circle.Zero(c, x.ID, tick)
				for z := s.Lo; z <= s.Hi; z++ {
					if !slices.ContainsFunc(l, func(one []int) bool { return one[tick-x.From] == z }) {
						t.Fatal(c, x.ID, tick, z)
					}
				}
				if s.Hi-s.Lo > 1 {
					several++
				}
			}
		}
	}
	counted(t, "minutes with several zeros", several, 500)
}

func TestP5_16PossibleUnlessTwoContradict(t *testing.T) {
	r := random(55)
	some, none := 0, 0
	for range 2000 {
		c := fewMinutes(r)
		pairs, e := circle.Clashes(c)
		if e != api.OK {
			t.Fatal(c, e)
		}
		possible := true
		for _, x := range c.Circles {
			possible = possible && len(sequences(c, x.ID)) > 0
		}
		if possible != (len(pairs) == 0) {
			t.Fatal(c, pairs)
		}
		if possible {
			some++
		} else {
			none++
		}
	}
	counted(t, "circles with possible zeros", some, 500)
	counted(t, "circles without", none, 300)
}

func TestP5_16SuspectsStandInAllPairs(t *testing.T) {
	r := random(56)
	found := 0
	for range 2000 {
		c, _ := randomCircles(r, kind{circles: 2, checks: 8, long: 300, wild: 1 + r.IntN(8)})
		pairs, _ := circle.Clashes(c)
		suspects, e := circle.Suspects(c)
		var want []int
		for _, id := range checkIDs(c) {
			if len(pairs) > 0 && !slices.ContainsFunc(pairs, func(pair [2]int) bool { return pair[0] != id && pair[1] != id }) {
				want = append(want, id)
			}
		}
		if e != api.OK || !slices.Equal(suspects, want) {
			t.Fatal(c, pairs, suspects, e)
		}
		for _, id := range suspects {
			found++
			c, _ := circle.Without(c, []int{id})
			if l, e := circle.Clashes(c); e != api.OK || len(l) != 0 {
				t.Fatal(c, id, l, e)
			}
		}
	}
	counted(t, "suspects", found, 300)
}

func TestP5_17TrueReadings(t *testing.T) {
	r := random(57)
	edge := 0
	for range 3000 {
		c, had := randomCircles(r, kind{circles: 3, checks: 8, long: []int{5, 300, 5000}[r.IntN(3)]})
		x := c.Circles[r.IntN(len(c.Circles))]
		tick, p := minuteOf(r, x), otherPlace(r, x.At)
		zero, slack := drawn(r, x, had[x.ID], tick), randomSlack(r)
		b := plainBearing(x.At, p)
		w, e := circle.Wedge(c, api.Reading{Circle: x.ID, Tick: tick, Shown: shown(r, b, zero, slack), Slack: slack})
		if e != api.OK || !circle.Lies(w, x.At, p) {
			t.Fatal(c, x.ID, tick, p, zero, slack, w, e)
		}
		if narrower := wedge(rest(w.From+1), rest(w.To-1)); !circle.Lies(narrower, x.At, p) {
			edge++
		}
	}
	counted(t, "places at the edge of the wedge", edge, 300)
}

func TestP5_17ShowsWhatCanBe(t *testing.T) {
	r := random(58)
	for range 500 {
		from := randomPlace(r)
		p := otherPlace(r, from)
		b := plainBearing(from, p)
		zero, slack := r.IntN(601)-300, randomSlack(r)
		s, ok := circle.Shows(from, p, zero, slack)
		for n := range 3600 {
			in := false
			for k := -1; k <= 1; k++ {
				in = in || s.Lo <= n+3600*k && n+3600*k <= s.Hi
			}
			if !ok || in != canBe(b, zero, n, slack) {
				t.Fatal(from, p, zero, slack, s, ok, n)
			}
		}
	}
}

func TestP5_18SharpWedges(t *testing.T) {
	r := random(59)
	in, out := 0, 0
	for range 60 {
		c, _ := randomCircles(r, kind{circles: 2, checks: 5, long: 300})
		x := randomReading(r, c)
		from := circleBy(c, x.Circle).At
		w, e := circle.Wedge(c, x)
		s, f := circle.Zero(c, x.Circle, x.Tick)
		if e != api.OK || f != api.OK {
			t.Fatal(c, x, e, f)
		}
		for _, p := range allPlaces() {
			if p == from {
				continue
			}
			some, b := false, plainBearing(from, p)
			for z := s.Lo; z <= s.Hi && !some; z++ {
				some = canBe(b, z, x.Shown, x.Slack)
			}
			if circle.Lies(w, from, p) != some {
				t.Fatal(c, x, w, p, some)
			}
			if some {
				in++
			} else {
				out++
			}
		}
	}
	counted(t, "places in wedges", in, 2000)
	counted(t, "places in none", out, 3000)
}

func holds(outer, inner api.Span) bool { return outer.Lo <= inner.Lo && inner.Hi <= outer.Hi }

func TestP5_19FurtherChecks(t *testing.T) {
	r := random(60)
	narrower, same := 0, 0
	for range 1500 {
		c, had := randomCircles(r, kind{circles: 2, checks: 6, long: []int{5, 300, 5000}[r.IntN(3)]})
		x := randomReading(r, c)
		more := c
		k := randomCheck(r, circleBy(c, x.Circle), 1<<40, had, false)
		more.Checks = append(slices.Clone(c.Checks), k)
		s, _ := circle.Zero(c, x.Circle, x.Tick)
		w, _ := circle.Wedge(c, x)
		n, e := circle.Zero(more, x.Circle, x.Tick)
		v, f := circle.Wedge(more, x)
		if e != api.OK || f != api.OK || !holds(s, n) || circle.Opening(v) > circle.Opening(w) {
			t.Fatal(c, k, x, s, n, w, v)
		}
		if m, ok := circle.Meet(w, v); !ok || m != v {
			t.Fatal(c, k, x, w, v, m)
		}
		if n != s {
			narrower++
		} else {
			same++
		}
	}
	counted(t, "narrower wedges", narrower, 300)
	counted(t, "wedges that stay the same", same, 300)
}

func TestP5_19ChecksOnWhichItRests(t *testing.T) {
	r := random(61)
	fewer := 0
	for range 1500 {
		c, _ := randomCircles(r, kind{circles: 2, checks: 10, long: []int{5, 300, 5000}[r.IntN(3)]})
		x := randomReading(r, c)
		lo, hi, e := circle.Rests(c, x.Circle, x.Tick)
		others := slices.DeleteFunc(checkIDs(c), func(id int) bool { return id == lo || id == hi })
		part, f := circle.Without(c, others)
		if e != api.OK || f != api.OK {
			t.Fatal(c, x, e, f)
		}
		w, e := circle.Wedge(c, x)
		v, f := circle.Wedge(part, x)
		if e != api.OK || f != api.OK || w != v {
			t.Fatal(c, x, lo, hi, w, v)
		}
		if len(others) > 3 {
			fewer++
		}
	}
	counted(t, "wedges that rest on few checks", fewer, 500)
}
