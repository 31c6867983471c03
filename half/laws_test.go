package half_test

import (
	"math/rand/v2"
	"slices"
	"testing"

	"firetower/api"
	"firetower/half"
)

// mustBest returns a greatest value of a system that is not empty, which CheckBest must accept.
func mustBest(t *testing.T, l []api.Half, f api.Form) api.Bound {
	t.Helper()
	b, e := half.Best(l, f)
	if e != api.OK {
		t.Fatal("Best:", l, f, e)
	}
	if e := half.CheckBest(l, f, b); e != api.OK {
		t.Fatal("CheckBest:", l, f, b, e)
	}
	return b
}

func TestP3_13Duality(t *testing.T) {
	r := random(30)
	for range 1000 {
		l := randomSystem(r, 12)
		corners := mustCorners(t, l)
		uses, empty, e := half.Empty(l)
		if e != api.OK || empty != (len(corners) == 0) || empty != (len(uses) > 0) {
			t.Fatal("both, or none:", l, corners, uses, empty, e)
		}
		if empty && half.CheckEmpty(l, uses) != api.OK {
			t.Fatal("CheckEmpty:", l, uses)
		}
		if empty {
			continue
		}
		f := randomForm(r)
		b := mustBest(t, l, f)
		for range 20 {
			p := randomPoint(r)
			if _, in := half.Allows(l, p); !in {
				continue
			}
			if v, _ := half.Value(f, p); half.Less(b.Value, v) < 0 {
				t.Fatal("a greater value:", l, f, b, p, v)
			}
		}
	}
}

// spoil changes some numbers of a bound.
func spoil(r *rand.Rand, b api.Bound, n int) api.Bound {
	b.Uses = slices.Clone(b.Uses)
	for range 1 + r.IntN(2) {
		switch r.IntN(8) {
		case 0:
			b.Scale += upTo(r, 2)
		case 1:
			b.Value.Num += upTo(r, 1)
		case 2:
			b.At = randomPoint(r)
		case 3:
			b.Value = api.Frac{Num: 2 * b.Value.Num, Den: 2 * b.Value.Den}
		case 4:
			b.Uses = append(b.Uses, api.Use{Half: r.IntN(n+6) - 5, Times: upTo(r, 2)})
		case 5:
			k := 1 + r.IntN(3)
			b.Scale *= k
			for i := range b.Uses {
				b.Uses[i].Times *= k
			}
		default:
			if len(b.Uses) > 0 {
				u := &b.Uses[r.IntN(len(b.Uses))]
				u.Times += upTo(r, 1)
				u.Half += upTo(r, 1)
			}
		}
	}
	return b
}

func TestP3_13WhatIsAcceptedIsProved(t *testing.T) {
	r := random(31)
	count := map[bool]int{}
	for range 4000 {
		l, f := randomSystem(r, 8), randomForm(r)
		if uses, empty, _ := half.Empty(l); empty {
			changed := spoil(r, api.Bound{Uses: uses}, len(l)).Uses
			if got := half.CheckEmpty(l, changed) == api.OK; got != plainProvesEmpty(l, changed) {
				t.Fatal("CheckEmpty:", l, changed, got)
			}
			continue
		}
		b := spoil(r, mustBest(t, l, f), len(l))
		got := half.CheckBest(l, f, b)
		if want := plainProves(l, f, b); want != (got == api.OK) || !want && got != api.ErrProof {
			t.Fatal("CheckBest:", l, f, b, got, "instead of", want)
		}
		count[got == api.OK]++
	}
	if count[true] < 200 || count[false] < 1000 {
		t.Error("seldom:", count)
	}
}

func TestP3_14Corners(t *testing.T) {
	r := random(32)
	for range 1000 {
		l := randomSystem(r, 12)
		corners := mustCorners(t, l)
		for _, p := range corners {
			if n, in := half.Allows(l, p); !in || n != -5 {
				t.Fatal("not in the polygon:", l, p, n)
			}
			if !crossed(l, p) {
				t.Fatal("not in two edges:", l, p)
			}
		}
		if len(corners) == 0 {
			continue
		}
		f := randomForm(r)
		best := mustBest(t, l, f).Value
		if !slices.ContainsFunc(corners, func(p api.Corner) bool { v, e := half.Value(f, p); return e == api.OK && v == best }) {
			t.Fatal("no corner attains:", l, f, best)
		}
	}
}

// crossed says whether a point is where two edges of a system, or of the map, cross.
func crossed(l []api.Half, p api.Corner) bool {
	all := slices.Concat(l, square())
	for i, g := range all {
		for _, h := range all[:i] {
			if q, e := half.Cross(g, h); e == api.OK && q == p {
				return true
			}
		}
	}
	return false
}

func TestP3_14Places(t *testing.T) {
	r := random(33)
	for range 100 {
		l := randomSystem(r, 12)
		places, _ := half.Places(l)
		var allowed []api.Place
		for y := range 49 {
			for x := range 49 {
				p := api.Place{X: x, Y: y}
				if _, in := half.Allows(l, half.Of(p)); in {
					allowed = append(allowed, p)
				}
			}
		}
		if !slices.Equal(places, allowed) {
			t.Fatal(l, places, "instead of", allowed)
		}
	}
}

func TestP3_15Fewer(t *testing.T) {
	r := random(34)
	for range 500 {
		l := randomSystem(r, 14)
		at, e := half.Thin(l)
		if e != api.OK || !slices.IsSorted(at) {
			t.Fatal("Thin:", l, at, e)
		}
		thin := chosen(l, at)
		if same, e := half.Same(l, thin); e != api.OK || !same {
			t.Fatal("another polygon:", l, at)
		}
		for i := range thin {
			if same, _ := half.Same(l, without(thin, i)); same {
				t.Fatal("not needed:", l, at, i)
			}
		}
		for i, h := range l {
			if implied, e := half.Implied(thin, h); e != api.OK || !implied {
				t.Fatal("not implied:", l, at, i)
			}
		}
		core, e := half.Core(l)
		if e == api.ErrNone {
			continue
		}
		few := chosen(l, core)
		if e != api.OK || !slices.IsSorted(core) || len(core) < 1 || len(core) > 3 || len(mustCorners(t, few)) != 0 {
			t.Fatal("Core:", l, core, e)
		}
		for i := range few {
			if len(mustCorners(t, without(few, i))) == 0 {
				t.Fatal("not needed:", l, core, i)
			}
		}
	}
}

func TestP3_16More(t *testing.T) {
	r := random(35)
	count := map[bool]int{}
	for range 1500 {
		l := randomSystem(r, 10)
		h := touching(r, l)
		more := append(slices.Clone(l), h)
		if len(mustCorners(t, l)) == 0 || len(mustCorners(t, more)) == 0 {
			continue
		}
		implied, _ := half.Implied(l, h)
		count[implied]++
		for range 5 {
			f := randomForm(r)
			before, then := mustBest(t, l, f).Value, mustBest(t, more, f).Value
			if half.Less(before, then) < 0 || implied && before != then {
				t.Fatal(l, h, f, before, then, implied)
			}
		}
		if same, _ := half.Same(l, more); same != implied {
			t.Fatal("implied, or not:", l, h, same, implied)
		}
	}
	if count[true] < 100 || count[false] < 100 {
		t.Error("seldom:", count)
	}
}

func TestP3_16BothSides(t *testing.T) {
	r := random(36)
	edge := 0
	for range 3000 {
		place := randomPlace(r)
		h, p := near(r, place, 5, 2), randomPoint(r)
		if r.IntN(2) == 0 {
			p = half.Of(place)
		}
		back, e := half.Back(h)
		if e != api.OK || !half.Holds(h, p) && !half.Holds(back, p) {
			t.Fatal("in neither:", h, back, p, e)
		}
		if on := beyond(h, pointOf(p)) == 0; on != (half.Holds(h, p) && half.Holds(back, p)) {
			t.Fatal("in both:", h, back, p)
		} else if on {
			edge++
		}
		if twice, _ := half.Back(back); twice != h {
			t.Fatal(h, back, twice)
		}
	}
	if edge < 100 {
		t.Error("seldom in the edge:", edge)
	}
}

func TestP3_17Hulls(t *testing.T) {
	r := random(37)
	for range 1500 {
		l := somePlaces(r)
		h, e := half.Hull(l)
		if e != api.OK {
			t.Fatal(l, e)
		}
		for _, p := range l {
			if n, in := half.Allows(h, half.Of(p)); !in {
				t.Fatal("not in the hull:", l, h, p, n)
			}
		}
		for _, c := range mustCorners(t, h) {
			if c.Den != 1 || !slices.Contains(l, api.Place{X: c.X, Y: c.Y}) {
				t.Fatal("no place at a corner:", l, h, c)
			}
		}
	}
}

// A hull of more half-planes than a system may have is one, too: only the functions with a system do not take it.
func TestP3_17HullOfManyCorners(t *testing.T) {
	l := round()
	h, e := half.Hull(l)
	if e != api.OK || len(h) != len(l) || len(h) <= api.MaxHalves {
		t.Fatal(h, e)
	}
	for i, g := range h {
		if c, e := half.Cross(g, h[(i+1)%len(h)]); e != api.OK || c.Den != 1 || !slices.Contains(l, api.Place{X: c.X, Y: c.Y}) {
			t.Error("no place at a corner:", i, c, e)
		}
		for _, p := range l {
			if !half.Holds(g, half.Of(p)) {
				t.Error("not in the hull:", g, p)
			}
		}
	}
}

// mixed returns a system in another order, with numbers multiplied where they stay valid.
func mixed(r *rand.Rand, l []api.Half) []api.Half {
	out := slices.Clone(l)
	r.Shuffle(len(out), func(i, j int) { out[i], out[j] = out[j], out[i] })
	for i, h := range out {
		k := 2 + r.IntN(6)
		if m := (api.Half{A: k * h.A, B: k * h.B, C: k * h.C}); half.Check([]api.Half{m}) == api.OK {
			out[i] = m
		}
	}
	return out
}

func TestP3_18Order(t *testing.T) {
	r := random(38)
	for range 700 {
		l := randomSystem(r, 10)
		m := mixed(r, l)
		if c := mustCorners(t, l); !slices.Equal(c, mustCorners(t, m)) {
			t.Fatal("Corners:", l, m, c)
		}
		if same, e := half.Same(l, m); e != api.OK || !same {
			t.Fatal("Same:", l, m, e)
		}
		p, q := randomPoint(r), randomPoint(r)
		_, in := half.Allows(l, p)
		_, too := half.Allows(m, p)
		if in != too || half.Compare(p, q) != -half.Compare(q, p) {
			t.Fatal("Allows, or Compare:", l, m, p, q)
		}
		places, e1 := half.Places(l)
		others, e2 := half.Places(m)
		if e1 != e2 || !slices.Equal(places, others) {
			t.Fatal("Places:", l, m)
		}
		h, f := touching(r, l), randomForm(r)
		one, _ := half.Implied(l, h)
		two, _ := half.Implied(m, h)
		a, e3 := half.Best(l, f)
		b, e4 := half.Best(m, f)
		_, e5 := half.Core(l)
		_, e6 := half.Core(m)
		if one != two || a.Value != b.Value || e3 != e4 || e5 != e6 {
			t.Fatal("Implied, Best, or Core:", l, m, h, f)
		}
		spare, _ := half.Spare(l)
		spared, _ := half.Spare(m)
		if len(spare) != len(spared) {
			t.Fatal("Spare:", l, m, spare, spared)
		}
	}
}
