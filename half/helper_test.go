package half_test

import (
	"math/big"
	"math/rand/v2"
	"slices"
	"testing"

	"firetower/api"
	"firetower/half"
)

// What follows is written from the chapter alone, with exact fractions of any size, so that the package can be held against it.

// random returns a generator of numbers that are the same in each run.
func random(seed uint64) *rand.Rand { return rand.New(rand.NewPCG(seed, 3)) }

// example returns the system of the chapter's examples.
func example() []api.Half {
	return []api.Half{{A: 1, B: 1, C: 10}, {A: -1, B: 2, C: 5}, {A: 2, B: -1, C: 8}}
}

// square returns the sides of the map, in the order of their numbers.
func square() []api.Half {
	return []api.Half{{A: -1}, {A: 1, C: 48}, {B: -1}, {B: 1, C: 48}}
}

func rat(num, den int) *big.Rat { return big.NewRat(int64(num), int64(den)) }

func whole(n int) *big.Rat { return rat(n, 1) }

// point is a point with exact coordinates.
type point struct{ x, y *big.Rat }

func pointOf(p api.Corner) point { return point{rat(p.X, p.Den), rat(p.Y, p.Den)} }

// sum returns a x + b y.
func (p point) sum(a, b int) *big.Rat {
	return new(big.Rat).Add(new(big.Rat).Mul(whole(a), p.x), new(big.Rat).Mul(whole(b), p.y))
}

// beyond returns the sign of A x + B y - C: 1 for a point that does not lie in the half-plane.
func beyond(h api.Half, p point) int { return p.sum(h.A, h.B).Cmp(whole(h.C)) }

func (p point) order(q point) int {
	if c := p.x.Cmp(q.x); c != 0 {
		return c
	}
	return p.y.Cmp(q.y)
}

// corner returns a point as it is written as a corner.
func (p point) corner() api.Corner {
	dx, dy := p.x.Denom(), p.y.Denom()
	den := new(big.Int).Mul(dx, dy)
	den.Div(den, new(big.Int).GCD(nil, nil, dx, dy))
	at := func(r *big.Rat) int {
		n := new(big.Int).Mul(r.Num(), den)
		return int(n.Div(n, r.Denom()).Int64())
	}
	return api.Corner{X: at(p.x), Y: at(p.y), Den: int(den.Int64())}
}

func fracOf(r *big.Rat) api.Frac {
	return api.Frac{Num: int(r.Num().Int64()), Den: int(r.Denom().Int64())}
}

// turn returns the sign of the area of a triangle: 1 if its corners turn left.
func turn(p, q, r point) int {
	sub := func(a, b *big.Rat) *big.Rat { return new(big.Rat).Sub(a, b) }
	left := new(big.Rat).Mul(sub(q.x, p.x), sub(r.y, p.y))
	return left.Cmp(new(big.Rat).Mul(sub(q.y, p.y), sub(r.x, p.x)))
}

// clipped cuts from a polygon what lies beyond an edge.
func clipped(l []point, h api.Half) []point {
	var out []point
	for i, p := range l {
		q := l[(i+1)%len(l)]
		in, next := beyond(h, p), beyond(h, q)
		if in <= 0 {
			out = append(out, p)
		}
		if in*next < 0 {
			out = append(out, between(h, p, q))
		}
	}
	return out
}

// between returns where an edge crosses the line from a point to another one.
func between(h api.Half, p, q point) point {
	vp, vq := p.sum(h.A, h.B), q.sum(h.A, h.B)
	t := new(big.Rat).Quo(new(big.Rat).Sub(whole(h.C), vp), new(big.Rat).Sub(vq, vp))
	on := func(a, b *big.Rat) *big.Rat {
		return new(big.Rat).Add(a, new(big.Rat).Mul(t, new(big.Rat).Sub(b, a)))
	}
	return point{on(p.x, q.x), on(p.y, q.y)}
}

// cleaned leaves out points that stand twice, and those between two others.
func cleaned(l []point) []point {
	var once []point
	for _, p := range l {
		if !slices.ContainsFunc(once, func(q point) bool { return p.order(q) == 0 }) {
			once = append(once, p)
		}
	}
	if len(once) < 3 {
		return once
	}
	var out []point
	for i, p := range once {
		if turn(once[(i+len(once)-1)%len(once)], p, once[(i+1)%len(once)]) != 0 {
			out = append(out, p)
		}
	}
	return out
}

// plainCorners cuts the map along one edge after the other; nothing if no point is left.
func plainCorners(l []api.Half) []api.Corner {
	p := []point{{whole(0), whole(0)}, {whole(48), whole(0)}, {whole(48), whole(48)}, {whole(0), whole(48)}}
	for _, h := range l {
		p = cleaned(clipped(p, h))
	}
	if len(p) == 0 {
		return nil
	}
	first := 0
	for i, q := range p {
		if q.order(p[first]) < 0 {
			first = i
		}
	}
	var out []api.Corner
	for i := range p {
		out = append(out, p[(first+i)%len(p)].corner())
	}
	return out
}

// plainGreatest returns the greatest value of a form at some corners.
func plainGreatest(f api.Form, l []api.Corner) *big.Rat {
	var out *big.Rat
	for _, p := range l {
		if v := pointOf(p).sum(f.X, f.Y); out == nil || v.Cmp(out) > 0 {
			out = v
		}
	}
	return out
}

// plainIn says whether a point lies in all half-planes of a system, and in the map.
func plainIn(l []api.Half, p point) bool {
	for _, h := range slices.Concat(l, square()) {
		if beyond(h, p) > 0 {
			return false
		}
	}
	return true
}

// plainSum returns the sums of A, of B and of C of uses, and whether these are formed.
func plainSum(l []api.Half, uses []api.Use) ([3]*big.Int, bool) {
	out := [3]*big.Int{new(big.Int), new(big.Int), new(big.Int)}
	if len(uses) > 4 {
		return out, false
	}
	seen := map[int]bool{}
	for _, u := range uses {
		if seen[u.Half] || u.Times < 1 || u.Times > 1<<21 || u.Half < -4 || u.Half >= len(l) {
			return out, false
		}
		seen[u.Half] = true
		var h api.Half
		if u.Half >= 0 {
			h = l[u.Half]
		} else {
			h = square()[-1-u.Half]
		}
		for i, n := range []int{h.A, h.B, h.C} {
			out[i].Add(out[i], new(big.Int).Mul(big.NewInt(int64(n)), big.NewInt(int64(u.Times))))
		}
	}
	return out, true
}

// plainValid says whether numbers over a denominator are valid.
func plainValid(most, den int, l ...int) bool {
	if den < 1 || den > 1<<21 {
		return false
	}
	d := big.NewInt(int64(den))
	for _, n := range l {
		if n < -most || n > most {
			return false
		}
		d.GCD(nil, nil, d, new(big.Int).Abs(big.NewInt(int64(n))))
	}
	return d.IsInt64() && d.Int64() == 1
}

// plainProves says whether a bound proves the greatest value of a form, for a right system and form.
func plainProves(l []api.Half, f api.Form, b api.Bound) bool {
	sum, formed := plainSum(l, b.Uses)
	if !formed || b.Scale < 1 || b.Scale > 1<<21 || !plainValid(1<<41, b.Value.Den, b.Value.Num) || !plainValid(1<<30, b.At.Den, b.At.X, b.At.Y) {
		return false
	}
	value := rat(b.Value.Num, b.Value.Den)
	for i, want := range []*big.Rat{whole(f.X), whole(f.Y), value} {
		if new(big.Rat).Mul(whole(b.Scale), want).Cmp(new(big.Rat).SetInt(sum[i])) != 0 {
			return false
		}
	}
	at := pointOf(b.At)
	return plainIn(l, at) && at.sum(f.X, f.Y).Cmp(value) == 0
}

// plainProvesEmpty says whether uses prove that a right system is empty.
func plainProvesEmpty(l []api.Half, uses []api.Use) bool {
	sum, formed := plainSum(l, uses)
	return formed && sum[0].Sign() == 0 && sum[1].Sign() == 0 && sum[2].Sign() < 0
}

// without returns a system without the half-plane with an index.
func without(l []api.Half, i int) []api.Half { return slices.Delete(slices.Clone(l), i, i+1) }

// chosen returns the half-planes of a system with some indices.
func chosen(l []api.Half, at []int) []api.Half {
	var out []api.Half
	for _, i := range at {
		out = append(out, l[i])
	}
	return out
}

// mustCorners returns the corners of a right system; none if it is empty.
func mustCorners(t *testing.T, l []api.Half) []api.Corner {
	t.Helper()
	out, e := half.Corners(l)
	if (e == api.OK) != (len(out) > 0) || e != api.OK && e != api.ErrClash {
		t.Fatal("Corners:", l, out, e)
	}
	return out
}

// wrongSystems are systems, and what Check says of them.
func wrongSystems() []struct {
	name string
	l    []api.Half
	e    api.Errno
} {
	at := func(i int, h api.Half) []api.Half {
		l := slices.Repeat([]api.Half{{A: 1, C: 9}}, 40)
		l[i] = h
		return l
	}
	return []struct {
		name string
		l    []api.Half
		e    api.Errno
	}{
		{"41 half-planes", slices.Repeat([]api.Half{{A: 1}}, 41), api.ErrLimit},
		{"41 wrong ones", make([]api.Half, 41), api.ErrLimit},
		{"no slope", at(0, api.Half{C: 1}), api.ErrArg},
		{"no slope of the last one", at(39, api.Half{}), api.ErrArg},
		{"A too great", at(39, api.Half{A: 1001}), api.ErrArg},
		{"A too small", at(20, api.Half{A: -1001}), api.ErrArg},
		{"B too great", at(1, api.Half{B: 1001}), api.ErrArg},
		{"B too small", at(39, api.Half{A: 1, B: -1001}), api.ErrArg},
		{"C too great", at(39, api.Half{A: 1, C: 1<<18 + 1}), api.ErrArg},
		{"C too small", at(5, api.Half{A: 1, C: -1<<18 - 1}), api.ErrArg},
		{"a very small A", at(39, api.Half{A: -1 << 63, B: 1}), api.ErrArg},
		{"a very great C", at(39, api.Half{A: 1, C: 1<<63 - 1}), api.ErrArg},
	}
}
