package half_test

import (
	"slices"
	"testing"

	"firetower/api"
	"firetower/half"
)

func TestP3_5Corners(t *testing.T) {
	line := []api.Half{{A: 2, B: 2, C: 5}, {A: -2, B: -2, C: -5}}
	for _, x := range []struct {
		name string
		l    []api.Half
		want []api.Corner
	}{
		{"the example", example(), []api.Corner{{Den: 1}, {X: 4, Den: 1}, {X: 6, Y: 4, Den: 1}, {X: 5, Y: 5, Den: 1}, {Y: 5, Den: 2}}},
		{"the map", nil, []api.Corner{{Den: 1}, {X: 48, Den: 1}, {X: 48, Y: 48, Den: 1}, {Y: 48, Den: 1}}},
		{"the map, by half-planes", square(), []api.Corner{{Den: 1}, {X: 48, Den: 1}, {X: 48, Y: 48, Den: 1}, {Y: 48, Den: 1}}},
		{"an edge through two corners", []api.Half{{A: 1, B: 1, C: 48}}, []api.Corner{{Den: 1}, {X: 48, Den: 1}, {Y: 48, Den: 1}}},
		{"an edge that only touches", []api.Half{{A: 1, B: 1, C: 96}, {A: 1, B: -1, C: 48}}, []api.Corner{{Den: 1}, {X: 48, Den: 1}, {X: 48, Y: 48, Den: 1}, {Y: 48, Den: 1}}},
		{"a line", line, []api.Corner{{Y: 5, Den: 2}, {X: 5, Den: 2}}},
		{"a line upwards", []api.Half{{A: 1, C: 7}, {A: -1, C: -7}, {B: 1, C: 9}}, []api.Corner{{X: 7, Den: 1}, {X: 7, Y: 9, Den: 1}}},
		{"a line along the west", []api.Half{{A: 1}}, []api.Corner{{Den: 1}, {Y: 48, Den: 1}}},
		{"a point", slices.Concat(line, []api.Half{{A: 1, B: -1, C: -1}, {A: -1, B: 1, C: 1}}), []api.Corner{{X: 3, Y: 7, Den: 4}}},
		{"a corner of the map", []api.Half{{A: -1, B: -1, C: -96}}, []api.Corner{{X: 48, Y: 48, Den: 1}}},
		{"the other corner", []api.Half{{A: 1000, B: 1}}, []api.Corner{{Den: 1}}},
		{"the first two by Compare have one x", []api.Half{{A: -1, C: -3}, {B: -2, C: -5}}, []api.Corner{{X: 6, Y: 5, Den: 2}, {X: 96, Y: 5, Den: 2}, {X: 48, Y: 48, Den: 1}, {X: 3, Y: 48, Den: 1}}},
		{"the first one is above the second", []api.Half{{A: -1, B: -1, C: -30}, {B: 1, C: 20}}, []api.Corner{{X: 10, Y: 20, Den: 1}, {X: 30, Den: 1}, {X: 48, Den: 1}, {X: 48, Y: 20, Den: 1}}},
		{"great numbers", []api.Half{{A: 1000, B: 999, C: 48000}, {A: -999, B: 1000, C: 1}}, []api.Corner{{Den: 1}, {X: 48, Den: 1}, {X: 47999001, Y: 47953000, Den: 1998001}, {Y: 1, Den: 1000}}},
	} {
		if got, e := half.Corners(x.l); e != api.OK || !slices.Equal(got, x.want) {
			t.Error(x.name, got, e)
		}
	}
}

func TestP3_5EmptyPolygons(t *testing.T) {
	for _, l := range [][]api.Half{
		{{A: 1, C: -1}}, {{A: -1, C: -49}}, {{B: 1, C: -1}}, {{B: -1, C: -49}}, {{A: -1, B: -1, C: -97}}, {{A: 1, B: 1, C: 5}, {A: -2, B: -2, C: -11}},
		append(example(), api.Half{A: -1, C: -7}), {{A: 1000, B: -1, C: -49}}, {{A: 1, C: -1 << 18}},
	} {
		if c, e := half.Corners(l); e != api.ErrClash || len(c) != 0 {
			t.Error("Corners:", l, c, e)
		}
		if p, e := half.Places(l); e != api.ErrClash || len(p) != 0 {
			t.Error("Places:", l, p, e)
		}
		if b, e := half.Best(l, api.Form{X: 1}); e != api.ErrClash || len(b.Uses) != 0 || b.Scale != 0 || b.At != (api.Corner{}) || b.Value != (api.Frac{}) {
			t.Error("Best:", l, b, e)
		}
	}
}

func TestP3_5RandomCorners(t *testing.T) {
	r := random(10)
	var k kinds
	for range 2500 {
		l := randomSystem(r, 12)
		want := plainCorners(l)
		k.count(want)
		got, e := half.Corners(l)
		if (e == api.ErrClash) != (want == nil) || e != api.OK && e != api.ErrClash || !slices.Equal(got, want) {
			t.Fatal(l, got, e, "instead of", want)
		}
	}
	if k.least() < 60 {
		t.Error("some kinds of polygons are seldom:", k)
	}
}

func TestP3_5ManyHalves(t *testing.T) {
	r := random(11)
	most := 0
	for range 30 {
		// Edges that touch a circle have many corners.
		var l []api.Half
		for len(l) < 40 {
			a, b := upTo(r, 30), upTo(r, 30)
			if d := a*a + b*b; d >= 700 && d <= 900 {
				l = append(l, api.Half{A: a, B: b, C: 24*a + 24*b + 20*28})
			}
		}
		want := plainCorners(l)
		most = max(most, len(want))
		if got, e := half.Corners(l); e != api.OK || !slices.Equal(got, want) {
			t.Fatal(l, got, e, "instead of", want)
		}
	}
	if most < 15 {
		t.Error("few corners:", most)
	}
}

// plainPlaces tries all places.
func plainPlaces(l []api.Half) []api.Place {
	var out []api.Place
	for y := range 49 {
		for x := range 49 {
			if !slices.ContainsFunc(l, func(h api.Half) bool { return h.A*x+h.B*y > h.C }) {
				out = append(out, api.Place{X: x, Y: y})
			}
		}
	}
	return out
}

func TestP3_5Places(t *testing.T) {
	if l, e := half.Places(example()); e != api.OK || len(l) != 26 || l[0] != (api.Place{}) || l[4] != (api.Place{X: 4}) || l[5] != (api.Place{Y: 1}) || l[25] != (api.Place{X: 5, Y: 5}) {
		t.Error(l, e)
	}
	if l, e := half.Places(nil); e != api.OK || len(l) != 49*49 || l[48] != (api.Place{X: 48}) || l[49] != (api.Place{Y: 1}) {
		t.Error(len(l), e)
	}
	for _, l := range [][]api.Half{{{A: 2, B: 2, C: 5}, {A: -2, B: -2, C: -5}}, {{A: 2, C: 1}, {A: -3, C: -1}}} {
		if p, e := half.Places(l); e != api.OK || len(p) != 0 {
			t.Error("a polygon without places:", l, p, e)
		}
	}
	r := random(12)
	none := 0
	for range 500 {
		l := randomSystem(r, 10)
		want := plainPlaces(l)
		got, e := half.Places(l)
		if empty := plainCorners(l) == nil; empty != (e == api.ErrClash) || !empty && e != api.OK || !slices.Equal(got, want) {
			t.Fatal(l, got, e, "instead of", want)
		}
		if e == api.OK && len(want) == 0 {
			none++
		}
	}
	if none < 5 {
		t.Error("polygons without places are seldom:", none)
	}
}

func TestP3_6Best(t *testing.T) {
	for _, x := range []struct {
		l    []api.Half
		f    api.Form
		want api.Frac
	}{
		{example(), api.Form{Y: 1}, api.Frac{Num: 5, Den: 1}}, {example(), api.Form{X: 1}, api.Frac{Num: 6, Den: 1}}, {example(), api.Form{X: -1, Y: 1}, api.Frac{Num: 5, Den: 2}}, {example(), api.Form{X: -3, Y: -1}, api.Frac{Den: 1}},
		{example(), api.Form{}, api.Frac{Den: 1}}, {example(), api.Form{X: 2, Y: 2}, api.Frac{Num: 20, Den: 1}}, {example(), api.Form{X: -1}, api.Frac{Den: 1}}, {example(), api.Form{X: 1000, Y: -1000}, api.Frac{Num: 4000, Den: 1}},
		{nil, api.Form{X: 1000, Y: 1000}, api.Frac{Num: 96000, Den: 1}}, {nil, api.Form{X: -1000, Y: 999}, api.Frac{Num: 999 * 48, Den: 1}}, {nil, api.Form{}, api.Frac{Den: 1}},
		{[]api.Half{{A: 7, B: 5, C: 9}, {A: -7, B: -5, C: -9}}, api.Form{X: -14, Y: -10}, api.Frac{Num: -18, Den: 1}}, {[]api.Half{{A: -1, C: -3}, {A: 1, C: 3}, {B: 1, C: 2}, {B: -1, C: -2}}, api.Form{X: 5, Y: -7}, api.Frac{Num: 1, Den: 1}},
		{[]api.Half{{A: 1000, B: 999, C: 48000}, {A: -999, B: 1000, C: 1}}, api.Form{Y: 1}, api.Frac{Num: 47953000, Den: 1998001}},
	} {
		b, e := half.Best(x.l, x.f)
		if e != api.OK || b.Value != x.want || !plainProves(x.l, x.f, b) {
			t.Error(x.l, x.f, b, e, "instead of", x.want)
		}
		if e := half.CheckBest(x.l, x.f, b); e != api.OK {
			t.Error(x.l, x.f, b, "CheckBest:", e)
		}
	}
}

func TestP3_6Errors(t *testing.T) {
	empty := []api.Half{{A: 1, C: -1}}
	proof := api.Bound{Value: api.Frac{Num: 5, Den: 1}, At: api.Corner{X: 5, Y: 5, Den: 1}, Scale: 3, Uses: []api.Use{{Half: 0, Times: 1}, {Half: 1, Times: 1}}}
	for _, f := range []api.Form{{X: 1001}, {X: -1001}, {Y: 1001}, {Y: -1001}, {X: -1 << 63, Y: 1}} {
		for _, l := range [][]api.Half{example(), empty, nil} {
			if b, e := half.Best(l, f); e != api.ErrArg || b.Scale != 0 || len(b.Uses) != 0 || b.At != (api.Corner{}) || b.Value != (api.Frac{}) {
				t.Error("Best:", l, f, b, e)
			}
			if e := half.CheckBest(l, f, proof); e != api.ErrArg {
				t.Error("CheckBest:", l, f, e)
			}
		}
	}
	if _, e := half.Best(empty, api.Form{X: 1000, Y: -1000}); e != api.ErrClash {
		t.Error(e)
	}
	if e := half.CheckBest(empty, api.Form{}, api.Bound{Value: api.Frac{Den: 1}, At: api.Corner{Den: 1}, Scale: 1}); e != api.ErrProof {
		t.Error("a bound of an empty system:", e)
	}
}

func TestP3_6RandomBest(t *testing.T) {
	r := random(13)
	var k kinds
	for range 2500 {
		l, f := randomSystem(r, 12), randomForm(r)
		if len(l) > 0 && r.IntN(4) == 0 {
			f = form(l[r.IntN(len(l))])
		}
		c := plainCorners(l)
		k.count(c)
		b, e := half.Best(l, f)
		if c == nil {
			if e != api.ErrClash {
				t.Fatal(l, f, b, e)
			}
			continue
		}
		if e != api.OK || b.Value != fracOf(plainGreatest(f, c)) || !plainProves(l, f, b) {
			t.Fatal(l, f, b, e, "instead of", plainGreatest(f, c))
		}
		if e := half.CheckBest(l, f, b); e != api.OK {
			t.Fatal(l, f, b, "CheckBest:", e)
		}
	}
	if k.least() < 60 {
		t.Error("some kinds of polygons are seldom:", k)
	}
}

// spoiledBounds are changes of the bound of y in the example.
func spoiledBounds() []struct {
	name string
	do   func(b *api.Bound)
	e    api.Errno
} {
	return []struct {
		name string
		do   func(b *api.Bound)
		e    api.Errno
	}{
		{"as it is", func(b *api.Bound) {}, api.OK},
		{"twice all", func(b *api.Bound) { b.Scale, b.Uses[0].Times, b.Uses[1].Times = 6, 2, 2 }, api.OK},
		{"the other order", func(b *api.Bound) { slices.Reverse(b.Uses) }, api.OK},
		{"no scale", func(b *api.Bound) { b.Scale = 0 }, api.ErrProof},
		{"another scale", func(b *api.Bound) { b.Scale = 4 }, api.ErrProof},
		{"a scale below 0", func(b *api.Bound) { b.Scale = -3 }, api.ErrProof},
		{"a greater value", func(b *api.Bound) { b.Value.Num = 6 }, api.ErrProof},
		{"a lesser value", func(b *api.Bound) { b.Value.Num = 4 }, api.ErrProof},
		{"a value with a divisor", func(b *api.Bound) { b.Value = api.Frac{Num: 10, Den: 2} }, api.ErrProof},
		{"a value below 0 twice", func(b *api.Bound) { b.Value = api.Frac{Num: -5, Den: -1} }, api.ErrProof},
		{"no value", func(b *api.Bound) { b.Value = api.Frac{} }, api.ErrProof},
		{"a corner with a divisor", func(b *api.Bound) { b.At = api.Corner{X: 10, Y: 10, Den: 2} }, api.ErrProof},
		{"a corner below 0 twice", func(b *api.Bound) { b.At = api.Corner{X: -5, Y: -5, Den: -1} }, api.ErrProof},
		{"no corner", func(b *api.Bound) { b.At = api.Corner{} }, api.ErrProof},
		{"a lower corner", func(b *api.Bound) { b.At = api.Corner{X: 6, Y: 4, Den: 1} }, api.ErrProof},
		{"a point outside", func(b *api.Bound) { b.At = api.Corner{X: 4, Y: 5, Den: 1} }, api.ErrProof},
		{"a point outside of the map", func(b *api.Bound) { b.At = api.Corner{X: -9, Y: 5, Den: 1} }, api.ErrProof},
		{"no uses", func(b *api.Bound) { b.Uses = nil }, api.ErrProof},
		{"one use", func(b *api.Bound) { b.Uses = b.Uses[:1] }, api.ErrProof},
		{"another half-plane", func(b *api.Bound) { b.Uses[1].Half = 2 }, api.ErrProof},
		{"a side of the map", func(b *api.Bound) { b.Uses[1].Half = api.North }, api.ErrProof},
		{"a half-plane behind the end", func(b *api.Bound) { b.Uses[0].Half = 3 }, api.ErrProof},
		{"no half-plane", func(b *api.Bound) { b.Uses[0].Half = -5 }, api.ErrProof},
		{"a very great index", func(b *api.Bound) { b.Uses[0].Half = 1<<63 - 1 }, api.ErrProof},
		{"a very small index", func(b *api.Bound) { b.Uses[0].Half = -1 << 63 }, api.ErrProof},
		{"a half-plane twice", func(b *api.Bound) { b.Uses[1].Half = 0 }, api.ErrProof},
		{"a use of no times", func(b *api.Bound) { b.Uses = append(b.Uses, api.Use{Half: 2}) }, api.ErrProof},
		{"a use of a side of no times", func(b *api.Bound) { b.Uses = append(b.Uses, api.Use{Half: api.West}) }, api.ErrProof},
		{"a use below 0", func(b *api.Bound) { b.Uses[0].Times = -1 }, api.ErrProof},
		{"a use more often", func(b *api.Bound) { b.Uses[0].Times = 2 }, api.ErrProof},
		{"more uses than a proof needs", func(b *api.Bound) {
			b.Uses = append(b.Uses, api.Use{Half: api.West, Times: 1}, api.Use{Half: api.East, Times: 1})
		}, api.ErrProof},
	}
}

func TestP3_6CheckBest(t *testing.T) {
	for _, x := range spoiledBounds() {
		b := api.Bound{Value: api.Frac{Num: 5, Den: 1}, At: api.Corner{X: 5, Y: 5, Den: 1}, Scale: 3, Uses: []api.Use{{Half: 0, Times: 1}, {Half: 1, Times: 1}}}
		x.do(&b)
		if e := half.CheckBest(example(), api.Form{Y: 1}, b); e != x.e || (e == api.OK) != plainProves(example(), api.Form{Y: 1}, b) {
			t.Error(x.name, e, "instead of", x.e)
		}
	}
}

func TestP3_6CheckBestLimits(t *testing.T) {
	six := func(n int) []api.Use {
		var out []api.Use
		for i := range n {
			out = append(out, api.Use{Half: i, Times: 1})
		}
		return out
	}
	one := func(half, times int) []api.Use { return []api.Use{{Half: half, Times: times}} }
	at := api.Corner{X: 6, Den: 1}
	l := []api.Half{{A: 1, C: 6}, {A: 1, C: 6}, {A: 1, C: 6}, {A: 1, C: 6}, {A: 1, C: 6}, {A: 1000, C: 6000}}
	for _, x := range []struct {
		name string
		f    api.Form
		b    api.Bound
		e    api.Errno
	}{
		{"4 uses", api.Form{X: 1}, api.Bound{Value: api.Frac{Num: 6, Den: 1}, At: at, Scale: 4, Uses: six(4)}, api.OK},
		{"5 uses", api.Form{X: 1}, api.Bound{Value: api.Frac{Num: 6, Den: 1}, At: at, Scale: 5, Uses: six(5)}, api.ErrProof},
		{"three times at once", api.Form{X: 1}, api.Bound{Value: api.Frac{Num: 6, Den: 1}, At: at, Scale: 3, Uses: one(4, 3)}, api.OK},
		{"once and twice", api.Form{X: 1}, api.Bound{Value: api.Frac{Num: 6, Den: 1}, At: at, Scale: 3, Uses: []api.Use{{Half: 4, Times: 1}, {Half: 4, Times: 2}}}, api.ErrProof},
		{"as often as possible", api.Form{X: 1}, api.Bound{Value: api.Frac{Num: 6, Den: 1}, At: at, Scale: 1 << 21, Uses: one(0, 1<<21)}, api.OK},
		{"more often", api.Form{X: 1}, api.Bound{Value: api.Frac{Num: 6, Den: 1}, At: at, Scale: 1<<21 + 1, Uses: one(0, 1<<21+1)}, api.ErrProof},
		{"a great scale", api.Form{X: 1}, api.Bound{Value: api.Frac{Num: 6, Den: 1}, At: at, Scale: 2097 * 1000, Uses: one(5, 2097)}, api.OK},
		{"a scale that is too great", api.Form{X: 1}, api.Bound{Value: api.Frac{Num: 6, Den: 1}, At: at, Scale: 2098 * 1000, Uses: one(5, 2098)}, api.ErrProof},
		{"many times", api.Form{X: 1000}, api.Bound{Value: api.Frac{Num: 6000, Den: 1}, At: at, Scale: 2097, Uses: one(0, 2097*1000)}, api.OK},
		{"too many times", api.Form{X: 1000}, api.Bound{Value: api.Frac{Num: 6000, Den: 1}, At: at, Scale: 2098, Uses: one(0, 2098*1000)}, api.ErrProof},
		{"nothing to prove", api.Form{}, api.Bound{Value: api.Frac{Den: 1}, At: api.Corner{X: 1, Y: 2, Den: 3}, Scale: 7}, api.OK},
		{"nothing to prove, at the edge", api.Form{}, api.Bound{Value: api.Frac{Den: 1}, At: at, Scale: 1 << 21, Uses: []api.Use{}}, api.OK},
		{"nothing to prove, with 5 uses", api.Form{}, api.Bound{Value: api.Frac{Den: 1}, At: at, Scale: 1, Uses: six(5)}, api.ErrProof},
		{"nothing to prove, outside", api.Form{}, api.Bound{Value: api.Frac{Den: 1}, At: api.Corner{X: 7, Y: 2, Den: 1}, Scale: 7}, api.ErrProof},
		{"nothing to prove, without a scale", api.Form{}, api.Bound{Value: api.Frac{Den: 1}, At: at}, api.ErrProof},
		{"nothing to prove, with a scale below 0", api.Form{}, api.Bound{Value: api.Frac{Den: 1}, At: at, Scale: -1}, api.ErrProof},
		{"nothing to prove, with too great a scale", api.Form{}, api.Bound{Value: api.Frac{Den: 1}, At: at, Scale: 1<<21 + 1}, api.ErrProof},
		{"nothing to prove, with no corner", api.Form{}, api.Bound{Value: api.Frac{Den: 1}, At: api.Corner{Den: 2}, Scale: 1}, api.ErrProof},
		{"nothing to prove, with no fraction", api.Form{}, api.Bound{Value: api.Frac{Den: 2}, At: at, Scale: 1}, api.ErrProof},
		{"two sides", api.Form{X: -3, Y: -1}, api.Bound{Value: api.Frac{Den: 1}, At: api.Corner{Den: 1}, Scale: 2, Uses: []api.Use{{Half: api.West, Times: 6}, {Half: api.South, Times: 2}}}, api.OK},
		{"the others", api.Form{X: -1, Y: 1}, api.Bound{Value: api.Frac{Num: 48, Den: 1}, At: api.Corner{Y: 48, Den: 1}, Scale: 1, Uses: []api.Use{{Half: api.West, Times: 1}, {Half: api.North, Times: 1}}}, api.OK},
		{"the east, where another one is nearer", api.Form{X: 1}, api.Bound{Value: api.Frac{Num: 48, Den: 1}, At: api.Corner{X: 48, Den: 1}, Scale: 1, Uses: one(api.East, 1)}, api.ErrProof},
		{"sums beyond an int", api.Form{X: 1}, api.Bound{Value: api.Frac{Num: 6, Den: 1}, At: at, Scale: 1, Uses: one(0, -1<<63+1)}, api.ErrProof},
		{"sums that come around", api.Form{}, api.Bound{Value: api.Frac{Den: 1}, At: at, Scale: 1, Uses: []api.Use{{Half: 0, Times: 1 << 62}, {Half: 1, Times: 1 << 62}, {Half: 2, Times: 1 << 62}, {Half: 3, Times: 1 << 62}}}, api.ErrProof},
	} {
		if e := half.CheckBest(l, x.f, x.b); e != x.e || (e == api.OK) != plainProves(l, x.f, x.b) {
			t.Error(x.name, e, "instead of", x.e)
		}
	}
}

func TestP3_6GreatNumbersInProofs(t *testing.T) {
	l := []api.Half{{A: 1000, B: 999, C: 48000}, {A: -999, B: 1000, C: 1}}
	b := api.Bound{Value: api.Frac{Num: 47953000, Den: 1998001}, At: api.Corner{X: 47999001, Y: 47953000, Den: 1998001}, Scale: 1998001, Uses: []api.Use{{Half: 0, Times: 999}, {Half: 1, Times: 1000}}}
	if e := half.CheckBest(l, api.Form{Y: 1}, b); e != api.OK {
		t.Error(e)
	}
	// What is wrong by a multiple of 2^64 is wrong.
	far := api.Bound{Value: api.Frac{Num: 1 << 41, Den: 1 << 21}, At: b.At, Scale: 1 << 21, Uses: b.Uses}
	if e := half.CheckBest(l, api.Form{Y: 1}, far); e != api.ErrProof {
		t.Error(e)
	}
}

func TestP3_7Empty(t *testing.T) {
	for _, x := range []struct {
		l     []api.Half
		empty bool
	}{
		{nil, false}, {example(), false}, {square(), false}, {append(example(), api.Half{A: -1, C: -7}), true}, {append(example(), api.Half{A: -1, C: -6}), false},
		{[]api.Half{{A: 1, C: -1}}, true}, {[]api.Half{{A: 1}}, false}, {[]api.Half{{A: -1, C: -49}}, true}, {[]api.Half{{A: -1, C: -48}}, false}, {[]api.Half{{B: 7, C: -1}}, true}, {[]api.Half{{B: -7, C: -337}}, true}, {[]api.Half{{B: -7, C: -336}}, false},
		{[]api.Half{{A: -1, B: -1, C: -97}}, true}, {[]api.Half{{A: -1, B: -1, C: -96}}, false}, {[]api.Half{{A: 999, B: -1000, C: -48001}}, true}, {[]api.Half{{A: 999, B: -1000, C: -48000}}, false},
		{[]api.Half{{A: 6, B: 9, C: 20}, {A: -4, B: -6, C: -13}}, false}, {[]api.Half{{A: 6, B: 9, C: 20}, {A: -4, B: -6, C: -14}}, true},
		{[]api.Half{{A: 1000, B: 999, C: 0}, {A: -999, B: -1000, C: -1}, {A: -1, B: 1, C: -1}}, true},
	} {
		uses, is, e := half.Empty(x.l)
		if e != api.OK || is != x.empty || !is && len(uses) != 0 || is && (len(uses) > 3 || !plainProvesEmpty(x.l, uses) || half.CheckEmpty(x.l, uses) != api.OK) {
			t.Error(x.l, uses, is, e)
		}
	}
}

func TestP3_7RandomEmpty(t *testing.T) {
	r := random(14)
	some := 0
	for range 2500 {
		l := randomSystem(r, 12)
		empty := plainCorners(l) == nil
		uses, is, e := half.Empty(l)
		if e != api.OK || is != empty || !is && len(uses) != 0 || is && (len(uses) > 3 || !plainProvesEmpty(l, uses) || half.CheckEmpty(l, uses) != api.OK) {
			t.Fatal(l, uses, is, e)
		}
		if is {
			some++
		}
	}
	if some < 500 {
		t.Error("seldom empty:", some)
	}
}

func TestP3_7CheckEmpty(t *testing.T) {
	l := append(example(), api.Half{A: -1, C: -7}, api.Half{A: 1, C: 6}, api.Half{A: 2, C: 13}, api.Half{A: -1000, C: -6500})
	for _, x := range []struct {
		uses []api.Use
		e    api.Errno
	}{
		{[]api.Use{{Half: 3, Times: 3}, {Half: 0, Times: 1}, {Half: 2, Times: 1}}, api.OK}, {[]api.Use{{Half: 0, Times: 2}, {Half: 2, Times: 2}, {Half: 3, Times: 6}}, api.OK}, {[]api.Use{{Half: 3, Times: 1}, {Half: 4, Times: 1}}, api.OK},
		{[]api.Use{{Half: 3, Times: 3}, {Half: 0, Times: 1}, {Half: 2, Times: 1}, {Half: 5, Times: 1}}, api.ErrProof}, {[]api.Use{{Half: 3, Times: 4}, {Half: 0, Times: 1}, {Half: 2, Times: 1}, {Half: 4, Times: 1}}, api.OK},
		{[]api.Use{{Half: 3, Times: 4}, {Half: 0, Times: 1}, {Half: 2, Times: 1}, {Half: 4, Times: 1}, {Half: api.East, Times: 1}}, api.ErrProof}, {[]api.Use{{Half: 3, Times: 6}, {Half: 0, Times: 1}, {Half: 2, Times: 1}, {Half: 4, Times: 1}, {Half: 5, Times: 1}}, api.ErrProof},
		{nil, api.ErrProof}, {[]api.Use{}, api.ErrProof}, {[]api.Use{{Half: 3, Times: 1}}, api.ErrProof}, {[]api.Use{{Half: 3, Times: 3}, {Half: 0, Times: 1}, {Half: 2, Times: 2}}, api.ErrProof}, {[]api.Use{{Half: 3, Times: 3}, {Half: 0, Times: 1}, {Half: 7, Times: 1}}, api.ErrProof},
		{[]api.Use{{Half: api.East, Times: 1}, {Half: api.West, Times: 1}}, api.ErrProof}, {[]api.Use{{Half: 3, Times: 1}, {Half: api.East, Times: 1}}, api.ErrProof}, {[]api.Use{{Half: 6, Times: 1}, {Half: 5, Times: 500}}, api.ErrProof}, {[]api.Use{{Half: 6, Times: 1}, {Half: 4, Times: 1000}}, api.OK},
		{[]api.Use{{Half: 3, Times: 0}, {Half: 4, Times: 0}}, api.ErrProof}, {[]api.Use{{Half: 3, Times: -1}, {Half: 4, Times: -1}}, api.ErrProof}, {[]api.Use{{Half: 3, Times: 1}, {Half: 4, Times: 1}, {Half: 0, Times: 0}}, api.ErrProof}, {[]api.Use{{Half: 3, Times: 1}, {Half: 4, Times: 1}, {Half: -5, Times: 1}}, api.ErrProof},
		{[]api.Use{{Half: 3, Times: 1}, {Half: 4, Times: 2}, {Half: 3, Times: 1}}, api.ErrProof}, {[]api.Use{{Half: 3, Times: 1}, {Half: 4, Times: 3}, {Half: 3, Times: 2}}, api.ErrProof},
		{[]api.Use{{Half: 3, Times: 1 << 21}, {Half: 4, Times: 1 << 21}}, api.OK}, {[]api.Use{{Half: 3, Times: 1<<21 + 1}, {Half: 4, Times: 1<<21 + 1}}, api.ErrProof}, {[]api.Use{{Half: 3, Times: 1 << 62}, {Half: 4, Times: 1 << 62}}, api.ErrProof},
	} {
		if e := half.CheckEmpty(l, x.uses); e != x.e || (e == api.OK) != plainProvesEmpty(l, x.uses) {
			t.Error(x.uses, e, "instead of", x.e)
		}
	}
	// The sum of A, or that of B alone is not 0.
	for _, h := range []api.Half{{A: 1, B: -1, C: -60}, {A: -1, B: -1, C: -60}} {
		for _, u := range []int{api.West, api.East, api.South, api.North} {
			if e := half.CheckEmpty([]api.Half{h}, []api.Use{{Half: 0, Times: 1}, {Half: u, Times: 1}}); e != api.ErrProof {
				t.Error(h, u, e)
			}
		}
	}
	if e := half.CheckEmpty([]api.Half{{A: -1, B: -1, C: -97}}, []api.Use{{Half: 0, Times: 1}, {Half: api.East, Times: 1}, {Half: api.North, Times: 1}}); e != api.OK {
		t.Error(e)
	}
	if e := half.CheckEmpty(example(), []api.Use{{Half: 0, Times: 1}}); e != api.ErrProof {
		t.Error(e)
	}
}
