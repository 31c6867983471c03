package half_test

import (
	"math"
	"slices"
	"testing"

	"firetower/api"
	"firetower/half"
)

func TestP3_1Check(t *testing.T) {
	for _, x := range wrongSystems() {
		if e := half.Check(x.l); e != x.e {
			t.Error(x.name, e, "instead of", x.e)
		}
	}
	for _, l := range [][]api.Half{
		nil, {}, example(), slices.Repeat(example()[:1], 40), square(),
		{{A: 1000, C: 1 << 18}}, {{A: -1000, C: -1 << 18}}, {{B: 1000}}, {{B: -1000}}, {{A: 1, B: -1}}, {{A: -1000, B: 1000, C: 1}},
	} {
		if e := half.Check(l); e != api.OK {
			t.Error(l, e)
		}
	}
}

// All errors of a system come before those of other arguments, and before all else that a call could say.
func TestP3_1ErrorsOfSystemsComeFirst(t *testing.T) {
	wrong := api.Form{X: 1001}
	for _, x := range wrongSystems() {
		corners, e1 := half.Corners(x.l)
		places, e2 := half.Places(x.l)
		best, e3 := half.Best(x.l, wrong)
		e4 := half.CheckBest(x.l, wrong, api.Bound{})
		uses, is, e5 := half.Empty(x.l)
		e6 := half.CheckEmpty(x.l, []api.Use{{Half: 99}})
		core, e7 := half.Core(x.l)
		implied, e8 := half.Implied(x.l, api.Half{})
		spare, e9 := half.Spare(x.l)
		thin, e10 := half.Thin(x.l)
		same, e11 := half.Same(x.l, example())
		other, e12 := half.Same(example(), x.l)
		for i, e := range []api.Errno{e1, e2, e3, e4, e5, e6, e7, e8, e9, e10, e11, e12} {
			if e != x.e {
				t.Error(x.name, i+1, e, "instead of", x.e)
			}
		}
		if len(corners)+len(places)+len(uses)+len(core)+len(spare)+len(thin)+len(best.Uses)+best.Scale != 0 || best.At != (api.Corner{}) || best.Value != (api.Frac{}) || is || implied || same || other {
			t.Error(x.name, "a result with an error")
		}
	}
}

func TestP3_1Valid(t *testing.T) {
	for _, x := range []struct {
		p  api.Corner
		is bool
	}{
		{api.Corner{}, false}, {api.Corner{Den: 1}, true}, {api.Corner{Den: 2}, false}, {api.Corner{X: 1}, false}, {api.Corner{X: 1, Den: -1}, false},
		{api.Corner{X: 1, Y: 2, Den: 2}, true}, {api.Corner{X: 2, Y: 1, Den: 2}, true}, {api.Corner{X: 2, Y: 4, Den: 2}, false}, {api.Corner{X: -2, Y: -4, Den: 2}, false},
		{api.Corner{X: -3, Y: 6, Den: 9}, false}, {api.Corner{X: 3, Y: -9, Den: 6}, false}, {api.Corner{X: 6, Y: 10, Den: 15}, true}, {api.Corner{X: -6, Y: 0, Den: 35}, true}, {api.Corner{X: 0, Y: -6, Den: 9}, false}, {api.Corner{X: -6, Den: 9}, false},
		{api.Corner{X: 1, Den: 1 << 21}, true}, {api.Corner{X: 1, Den: 1<<21 + 1}, false}, {api.Corner{Y: 1, Den: math.MaxInt}, false}, {api.Corner{X: 1, Den: math.MinInt}, false},
		{api.Corner{X: 1 << 30, Den: 1}, true}, {api.Corner{X: 1<<30 + 1, Den: 1}, false}, {api.Corner{X: -1 << 30, Den: 1}, true}, {api.Corner{X: -1<<30 - 1, Den: 1}, false},
		{api.Corner{Y: 1 << 30, Den: 1}, true}, {api.Corner{Y: 1<<30 + 1, Den: 1}, false}, {api.Corner{Y: -1 << 30, Den: 1}, true}, {api.Corner{Y: -1<<30 - 1, Den: 1}, false},
		{api.Corner{X: math.MinInt, Den: 1}, false}, {api.Corner{Y: math.MinInt, Den: 3}, false}, {api.Corner{X: math.MaxInt, Den: 1}, false},
		{api.Corner{X: 60, Y: -70, Den: 1}, true},
	} {
		if half.Valid(x.p) != x.is {
			t.Error(x.p, !x.is)
		}
	}
	r := random(1)
	for range 3000 {
		p := api.Corner{X: upTo(r, 60), Y: upTo(r, 60), Den: r.IntN(60)}
		if got := half.Valid(p); got != plainValid(1<<30, p.Den, p.X, p.Y) {
			t.Fatal(p, got)
		}
	}
}

func TestP3_1Of(t *testing.T) {
	for y := -2; y < 52; y++ {
		for x := -2; x < 52; x++ {
			want := api.Corner{X: x, Y: y, Den: 1}
			if x < 0 || x > 48 || y < 0 || y > 48 {
				want = api.Corner{}
			}
			if got := half.Of(api.Place{X: x, Y: y}); got != want {
				t.Error(x, y, got)
			}
		}
	}
	if p := half.Of(api.Place{X: math.MaxInt, Y: math.MinInt}); p != (api.Corner{}) {
		t.Error(p)
	}
}

func TestP3_2Holds(t *testing.T) {
	far := api.Corner{X: 1 << 30, Y: -1 << 30, Den: 1<<21 - 1}
	for _, x := range []struct {
		h  api.Half
		p  api.Corner
		is bool
	}{
		{example()[1], api.Corner{Y: 5, Den: 2}, true}, {example()[1], api.Corner{X: -1, Y: 5, Den: 2}, false}, {example()[1], api.Corner{X: 1, Y: 5, Den: 2}, true}, {example()[1], api.Corner{Y: 3, Den: 1}, false},
		{api.Half{}, api.Corner{Den: 1}, false}, {api.Half{C: 1}, api.Corner{Den: 1}, false}, {api.Half{A: 1001, C: 5}, api.Corner{Den: 1}, false}, {api.Half{A: 1, C: 1<<18 + 1}, api.Corner{Den: 1}, false},
		{api.Half{A: 1, C: 5}, api.Corner{}, false}, {api.Half{A: 1, C: 5}, api.Corner{X: 2, Den: 2}, false}, {api.Half{A: 1, C: 5}, api.Corner{Den: -1}, false},
		{api.Half{A: 1000, B: -1000, C: 1 << 18}, far, false}, {api.Half{A: -1000, B: 1000, C: -1 << 18}, far, true},
		{api.Half{A: 1, C: -3}, api.Corner{X: -3, Y: 100, Den: 1}, true}, {api.Half{A: 1, C: -4}, api.Corner{X: -3, Y: 100, Den: 1}, false},
	} {
		if half.Holds(x.h, x.p) != x.is {
			t.Error(x.h, x.p, !x.is)
		}
	}
	r := random(2)
	for range 3000 {
		p, q := randomPlace(r), randomPoint(r)
		if r.IntN(2) == 0 {
			q = half.Of(p)
		}
		h := near(r, p, []int{1, 9, 1000}[r.IntN(3)], 2)
		if got := half.Holds(h, q); got != (beyond(h, pointOf(q)) <= 0) {
			t.Fatal(h, q, got)
		}
	}
}

func TestP3_2Compare(t *testing.T) {
	for _, x := range []struct {
		p, q api.Corner
		want int
	}{
		{api.Corner{X: 1, Den: 2}, api.Corner{X: 1, Den: 3}, 1}, {api.Corner{X: 1, Den: 3}, api.Corner{X: 1, Den: 2}, -1}, {api.Corner{X: -1, Den: 2}, api.Corner{X: -1, Den: 3}, -1},
		{api.Corner{X: 1, Y: 1, Den: 2}, api.Corner{X: 1, Y: 2, Den: 2}, -1}, {api.Corner{X: 1, Y: 2, Den: 2}, api.Corner{X: 1, Y: 1, Den: 2}, 1}, {api.Corner{X: 3, Y: 2, Den: 6}, api.Corner{X: 1, Y: 1, Den: 2}, -1},
		{api.Corner{X: 2, Y: 1, Den: 2}, api.Corner{X: 1, Y: 5, Den: 1}, -1}, {api.Corner{X: 1, Y: 9, Den: 1}, api.Corner{X: 2, Y: 0, Den: 1}, -1}, {api.Corner{X: 5, Y: 5, Den: 1}, api.Corner{X: 5, Y: 5, Den: 1}, 0},
		{api.Corner{X: 1, Den: 1}, api.Corner{}, 0}, {api.Corner{}, api.Corner{X: 1, Den: 1}, 0}, {api.Corner{X: 4, Den: 2}, api.Corner{X: 1, Den: 1}, 0}, {api.Corner{X: 1, Den: 1}, api.Corner{X: 4, Den: 2}, 0},
		{api.Corner{X: 1 << 30, Den: 1<<21 - 1}, api.Corner{X: 1<<30 - 2, Den: 1<<21 - 1}, 1}, {api.Corner{X: 1 << 30, Den: 1<<21 - 1}, api.Corner{X: 1<<30 - 2, Den: 1<<21 - 3}, -1},
		{api.Corner{X: -1 << 30, Den: 1}, api.Corner{X: 1 << 30, Den: 1}, -1},
	} {
		if got := half.Compare(x.p, x.q); got != x.want {
			t.Error(x.p, x.q, got)
		}
	}
	r := random(3)
	for range 2000 {
		p, q := randomPoint(r), randomPoint(r)
		if r.IntN(3) == 0 {
			q = point{pointOf(p).x, rat(r.IntN(100), p.Den)}.corner()
		}
		if got := half.Compare(p, q); got != pointOf(p).order(pointOf(q)) {
			t.Fatal(p, q, got)
		}
	}
}

func TestP3_2Less(t *testing.T) {
	for _, x := range []struct {
		a, b api.Frac
		want int
	}{
		{api.Frac{Num: -1, Den: 2}, api.Frac{Num: -1, Den: 3}, -1}, {api.Frac{Num: 2, Den: 1}, api.Frac{Num: 3, Den: 2}, 1}, {api.Frac{Num: 3, Den: 2}, api.Frac{Num: 3, Den: 2}, 0},
		{api.Frac{Num: 2, Den: 4}, api.Frac{Num: 9, Den: 1}, 0}, {api.Frac{Num: 9, Den: 1}, api.Frac{Num: 2, Den: 4}, 0}, {api.Frac{}, api.Frac{Num: 9, Den: 1}, 0}, {api.Frac{Num: 9, Den: 1}, api.Frac{Num: 1, Den: -1}, 0},
		{api.Frac{Num: 0, Den: 2}, api.Frac{Num: 1, Den: 1}, 0}, {api.Frac{Num: 0, Den: 1}, api.Frac{Num: 1, Den: 1}, -1}, {api.Frac{Num: -2, Den: 4}, api.Frac{Num: 1, Den: 1}, 0},
		{api.Frac{Num: 1, Den: 1 << 21}, api.Frac{Num: 1, Den: 1<<21 - 1}, -1}, {api.Frac{Num: 1, Den: 1<<21 + 1}, api.Frac{Num: 1, Den: 1}, 0},
		{api.Frac{Num: 1 << 41, Den: 1}, api.Frac{Num: 1<<41 - 1, Den: 1<<21 - 1}, 1}, {api.Frac{Num: 1<<41 + 1, Den: 1}, api.Frac{Den: 1}, 0}, {api.Frac{Num: -1<<41 - 1, Den: 1}, api.Frac{Den: 1}, 0},
		{api.Frac{Num: -1 << 41, Den: 1}, api.Frac{Num: 1<<41 - 1, Den: 1 << 21}, -1}, {api.Frac{Num: 1<<41 - 1, Den: 1 << 21}, api.Frac{Num: 1 << 41, Den: 1<<21 - 1}, -1},
		{api.Frac{Num: math.MinInt, Den: 1}, api.Frac{Den: 1}, 0}, {api.Frac{Num: math.MaxInt, Den: 1}, api.Frac{Den: 1}, 0}, {api.Frac{Num: 1, Den: math.MinInt}, api.Frac{Den: 1}, 0},
	} {
		if got := half.Less(x.a, x.b); got != x.want {
			t.Error(x.a, x.b, got)
		}
	}
	r := random(4)
	for range 3000 {
		most := []int{3, 50, 1 << 21}[r.IntN(3)]
		a, b := rat(upTo(r, most), 1+r.IntN(most)), rat(upTo(r, most), 1+r.IntN(most))
		if got := half.Less(fracOf(a), fracOf(b)); got != a.Cmp(b) {
			t.Fatal(a, b, got)
		}
	}
}

func TestP3_3Cross(t *testing.T) {
	l := example()
	for _, x := range []struct {
		g, h api.Half
		want api.Corner
		e    api.Errno
	}{
		{l[0], l[1], api.Corner{X: 5, Y: 5, Den: 1}, api.OK}, {l[0], l[2], api.Corner{X: 6, Y: 4, Den: 1}, api.OK},
		{api.Half{A: 3, C: -1}, api.Half{B: -2, C: 1}, api.Corner{X: -2, Y: -3, Den: 6}, api.OK}, {api.Half{B: -2, C: 1}, api.Half{A: 3, C: -1}, api.Corner{X: -2, Y: -3, Den: 6}, api.OK},
		{api.Half{A: 4}, api.Half{B: 6}, api.Corner{Den: 1}, api.OK},
		{l[0], api.Half{A: -2, B: -2}, api.Corner{}, api.ErrNone}, {l[0], l[0], api.Corner{}, api.ErrNone}, {l[0], api.Half{A: 3, B: 3, C: 30}, api.Corner{}, api.ErrNone}, {api.Half{A: 1}, api.Half{A: 1, C: 48}, api.Corner{}, api.ErrNone}, {api.Half{B: 1}, api.Half{B: -7, C: 2}, api.Corner{}, api.ErrNone},
		{api.Half{}, l[0], api.Corner{}, api.ErrArg}, {l[0], api.Half{}, api.Corner{}, api.ErrArg}, {api.Half{}, api.Half{}, api.Corner{}, api.ErrArg}, {api.Half{A: 1001}, api.Half{A: 1001}, api.Corner{}, api.ErrArg}, {api.Half{A: 1, C: 1<<18 + 1}, api.Half{A: 1}, api.Corner{}, api.ErrArg}, {l[0], api.Half{A: math.MinInt, C: 3}, api.Corner{}, api.ErrArg},
		{api.Half{A: 1000, B: 1000, C: 1 << 18}, api.Half{A: 1000, B: -1000, C: -1 << 18}, api.Corner{X: 0, Y: 32768, Den: 125}, api.OK},
		{api.Half{A: 999, B: 1000, C: 1 << 18}, api.Half{A: 1000, B: -999, C: -1 << 18}, api.Corner{X: -1 << 18, Y: 524025856, Den: 1998001}, api.OK},
		{api.Half{A: 1, B: 1000, C: 1 << 18}, api.Half{B: 1, C: -1 << 18}, api.Corner{X: 1<<18 + 1000<<18, Y: -1 << 18, Den: 1}, api.OK},
	} {
		if p, e := half.Cross(x.g, x.h); p != x.want || e != x.e {
			t.Error(x.g, x.h, p, e, "instead of", x.want, x.e)
		}
	}
}

// A crossing is always a valid corner, and the only point in both edges.
func TestP3_3RandomCross(t *testing.T) {
	r := random(5)
	for i := range 4000 {
		g, h := anyHalf(r), anyHalf(r)
		if i%2 == 0 {
			g, h = extremeHalf(r), extremeHalf(r)
		}
		if i%4 == 1 {
			g, h = near(r, randomPlace(r), 3, 3), near(r, randomPlace(r), 3, 3)
		}
		p, e := half.Cross(g, h)
		if parallel := g.A*h.B == h.A*g.B; parallel != (e == api.ErrNone) || !parallel && e != api.OK {
			t.Fatal(g, h, e)
		}
		if e == api.OK && (!half.Valid(p) || !plainValid(1<<30, p.Den, p.X, p.Y) || beyond(g, pointOf(p)) != 0 || beyond(h, pointOf(p)) != 0) || e != api.OK && p != (api.Corner{}) {
			t.Fatal(g, h, p)
		}
	}
}

func TestP3_3Value(t *testing.T) {
	for _, x := range []struct {
		f    api.Form
		p    api.Corner
		want api.Frac
		e    api.Errno
	}{
		{api.Form{X: 2, Y: -4}, api.Corner{X: 5, Y: 1, Den: 4}, api.Frac{Num: 3, Den: 2}, api.OK}, {api.Form{}, api.Corner{X: 5, Y: 1, Den: 4}, api.Frac{Den: 1}, api.OK}, {api.Form{X: -1, Y: -1}, api.Corner{X: 1, Y: 1, Den: 2}, api.Frac{Num: -1, Den: 1}, api.OK}, {api.Form{X: 1, Y: -1}, api.Corner{X: 1, Y: 1, Den: 2}, api.Frac{Den: 1}, api.OK},
		{api.Form{X: 1000, Y: 1000}, api.Corner{X: 1 << 30, Y: 1 << 30, Den: 1}, api.Frac{Num: 2000 << 30, Den: 1}, api.OK}, {api.Form{X: -1000, Y: 1000}, api.Corner{X: 1 << 30, Y: -1 << 30, Den: 1<<21 - 1}, api.Frac{Num: -2000 << 30, Den: 1<<21 - 1}, api.OK},
		{api.Form{X: 1001}, api.Corner{Den: 1}, api.Frac{}, api.ErrArg}, {api.Form{X: -1001}, api.Corner{Den: 1}, api.Frac{}, api.ErrArg}, {api.Form{Y: 1001}, api.Corner{Den: 1}, api.Frac{}, api.ErrArg}, {api.Form{Y: -1001}, api.Corner{Den: 1}, api.Frac{}, api.ErrArg}, {api.Form{X: math.MinInt}, api.Corner{Den: 1}, api.Frac{}, api.ErrArg},
		{api.Form{X: 1}, api.Corner{}, api.Frac{}, api.ErrArg}, {api.Form{X: 1}, api.Corner{X: 3, Den: 3}, api.Frac{}, api.ErrArg}, {api.Form{X: 1}, api.Corner{X: 1, Den: -1}, api.Frac{}, api.ErrArg}, {api.Form{X: 1}, api.Corner{X: math.MaxInt, Den: 1}, api.Frac{}, api.ErrArg},
	} {
		if v, e := half.Value(x.f, x.p); v != x.want || e != x.e {
			t.Error(x.f, x.p, v, e, "instead of", x.want, x.e)
		}
	}
	r := random(6)
	for range 2000 {
		f, p := randomForm(r), randomPoint(r)
		if v, e := half.Value(f, p); e != api.OK || v != fracOf(pointOf(p).sum(f.X, f.Y)) {
			t.Fatal(f, p, v, e)
		}
	}
}

func TestP3_4Allows(t *testing.T) {
	far := []api.Half{{A: 1, B: 1, C: 200}, {A: 1, C: 100}, {A: -1, B: -1, C: 9}}
	for _, x := range []struct {
		l  []api.Half
		p  api.Corner
		n  int
		is bool
	}{
		{example(), api.Corner{X: 5, Y: 5, Den: 1}, -5, true}, {example(), api.Corner{Y: 5, Den: 2}, -5, true}, {example(), api.Corner{Den: 1}, -5, true},
		{example(), api.Corner{X: 6, Y: 5, Den: 1}, 0, false}, {example(), api.Corner{Y: 3, Den: 1}, 1, false}, {example(), api.Corner{X: 5, Y: 1, Den: 1}, 2, false}, {example(), api.Corner{X: 3, Y: 8, Den: 1}, 0, false},
		{example(), api.Corner{X: -1, Den: 1}, api.West, false}, {example(), api.Corner{Y: -1, Den: 1}, api.South, false},
		{far, api.Corner{X: -1, Y: -1, Den: 1}, api.West, false}, {far, api.Corner{X: 60, Y: -1, Den: 1}, api.East, false}, {far, api.Corner{X: 60, Y: 60, Den: 1}, api.East, false}, {far, api.Corner{X: 7, Y: -1, Den: 1}, api.South, false}, {far, api.Corner{X: 7, Y: 60, Den: 1}, api.North, false}, {far, api.Corner{X: -1, Y: 60, Den: 1}, api.West, false},
		{far, api.Corner{X: -9, Y: -9, Den: 1}, 2, false}, {far, api.Corner{X: 101, Y: 100, Den: 1}, 0, false}, {far, api.Corner{X: 101, Y: -100, Den: 1}, 1, false},
		{nil, api.Corner{X: 48, Y: 48, Den: 1}, -5, true}, {nil, api.Corner{X: 97, Y: 96, Den: 2}, api.East, false}, {nil, api.Corner{X: 96, Y: 97, Den: 2}, api.North, false}, {nil, api.Corner{X: -1, Den: 9}, api.West, false}, {nil, api.Corner{Y: -1, Den: 9}, api.South, false}, {nil, api.Corner{Den: 1}, -5, true},
		{example(), api.Corner{}, -5, false}, {example(), api.Corner{X: 2, Den: 2}, -5, false}, {nil, api.Corner{X: 60}, -5, false}, {nil, api.Corner{X: math.MinInt, Den: 1}, -5, false},
		{[]api.Half{{A: 1, C: 40}, {}}, api.Corner{Den: 1}, -5, false}, {[]api.Half{{A: 1, C: 4}, {}}, api.Corner{X: 9, Den: 1}, -5, false}, {slices.Repeat(example()[:1], 41), api.Corner{Den: 1}, -5, false}, {slices.Repeat(example()[:1], 40), api.Corner{X: 11, Den: 1}, 0, false},
	} {
		if n, is := half.Allows(x.l, x.p); n != x.n || is != x.is {
			t.Error(x.l, x.p, n, is, "instead of", x.n, x.is)
		}
	}
}

func TestP3_4RandomAllows(t *testing.T) {
	r := random(7)
	in := 0
	for range 2000 {
		l, p := randomSystem(r, 8), randomPoint(r)
		if c := plainCorners(l); len(c) > 0 && r.IntN(2) == 0 {
			p = c[r.IntN(len(c))]
		}
		first := slices.IndexFunc(slices.Concat(l, square()), func(h api.Half) bool { return beyond(h, pointOf(p)) > 0 })
		want := first
		switch {
		case first < 0:
			want = -5
			in++
		case first >= len(l):
			want = []int{api.West, api.East, api.South, api.North}[first-len(l)]
		}
		if n, is := half.Allows(l, p); n != want || is != (first < 0) {
			t.Fatal(l, p, n, is, "instead of", want)
		}
	}
	if in < 500 {
		t.Error("seldom in the polygon:", in)
	}
}

// The numbers are exact where a float, or an int of 32 bits, is not.
func TestP3_2ExactNumbers(t *testing.T) {
	const d, q = 1<<21 - 1, 1<<20 - 1
	a, b := api.Frac{Num: q*d + 1, Den: d}, api.Frac{Num: q*(d-1) + 1, Den: d - 1}
	if half.Less(a, b) != -1 || half.Less(b, a) != 1 || half.Less(a, a) != 0 {
		t.Error(half.Less(a, b), half.Less(b, a), half.Less(a, a))
	}
	for _, c := range []int{0, 1, -1} {
		h, p := api.Half{A: 1000, B: -999, C: c}, api.Corner{X: 999 << 20, Y: 1000 << 20, Den: 1}
		if got := half.Holds(h, p); got != (c >= 0) {
			t.Error(c, got)
		}
	}
}
