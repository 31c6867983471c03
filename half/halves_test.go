package half_test

import (
	"math"
	"math/rand/v2"
	"slices"
	"testing"

	"firetower/api"
	"firetower/half"
)

// plainSame says whether two right systems have the same points.
func plainSame(l, m []api.Half) bool { return slices.Equal(plainCorners(l), plainCorners(m)) }

// plainFewer goes through indices, and leaves out each one without which the polygon is the same.
func plainFewer(l []api.Half, order []int) []int {
	var left []int
	for i := range l {
		left = append(left, i)
	}
	for _, i := range order {
		rest := slices.DeleteFunc(slices.Clone(left), func(j int) bool { return i == j })
		if plainSame(chosen(l, rest), l) {
			left = rest
		}
	}
	return left
}

func upwards(l []api.Half) []int {
	var out []int
	for i := range l {
		out = append(out, i)
	}
	return out
}

func downwards(l []api.Half) []int {
	out := upwards(l)
	slices.Reverse(out)
	return out
}

func TestP3_8Core(t *testing.T) {
	four := append(example(), api.Half{A: -1, C: -7})
	for _, x := range []struct {
		l    []api.Half
		want []int
		e    api.Errno
	}{
		{four, []int{0, 2, 3}, api.OK}, {example(), nil, api.ErrNone}, {nil, nil, api.ErrNone}, {square(), nil, api.ErrNone}, {[]api.Half{{A: 1}}, nil, api.ErrNone},
		{[]api.Half{{A: 1, C: -1}}, []int{0}, api.OK}, {[]api.Half{{A: 1, C: -1}, {A: 1, C: -1}}, []int{1}, api.OK}, {[]api.Half{{A: 1, C: -1}, {A: 1, C: 5}, {B: 1, C: 5}}, []int{0}, api.OK}, {[]api.Half{{A: 1, C: -1}, {B: 1, C: -1}, {A: -1, C: -49}}, []int{2}, api.OK},
		{[]api.Half{{A: 1, C: 5}, {A: -1, C: -6}, {A: 1, C: 4}, {A: -1, C: -8}}, []int{2, 3}, api.OK}, {[]api.Half{{A: 1, C: 5}, {A: -1, C: -6}, {A: -1, C: 4}, {A: -1, C: 8}}, []int{0, 1}, api.OK},
		{append(slices.Clone(four), four...), []int{4, 6, 7}, api.OK}, {slices.Repeat([]api.Half{{A: 1, C: -1}}, 40), []int{39}, api.OK},
	} {
		if got, e := half.Core(x.l); e != x.e || !slices.Equal(got, x.want) {
			t.Error(x.l, got, e, "instead of", x.want, x.e)
		}
	}
}

func TestP3_8RandomCore(t *testing.T) {
	r := random(20)
	sizes := map[int]int{}
	for range 1000 {
		l := randomSystem(r, 10)
		got, e := half.Core(l)
		if plainCorners(l) != nil {
			if e != api.ErrNone || len(got) != 0 {
				t.Fatal(l, got, e)
			}
			continue
		}
		if want := plainFewer(l, upwards(l)); e != api.OK || !slices.Equal(got, want) {
			t.Fatal(l, got, e, "instead of", want)
		}
		sizes[len(got)]++
	}
	if sizes[1] < 20 || sizes[2] < 20 || sizes[3] < 20 {
		t.Error("seldom:", sizes)
	}
}

func TestP3_9Implied(t *testing.T) {
	empty := []api.Half{{A: 1, C: -1}}
	for _, x := range []struct {
		l  []api.Half
		h  api.Half
		is bool
		e  api.Errno
	}{
		{example(), api.Half{A: 1, C: 6}, true, api.OK}, {example(), api.Half{A: 1, C: 5}, false, api.OK}, {example(), api.Half{A: 4, B: -1, C: 20}, true, api.OK}, {example(), api.Half{A: 4, B: -1, C: 19}, false, api.OK},
		{example(), api.Half{A: -2, B: 2, C: 5}, true, api.OK}, {example(), api.Half{A: -2, B: 2, C: 4}, false, api.OK}, {example(), api.Half{A: -1}, true, api.OK}, {example(), api.Half{A: -1, C: -1}, false, api.OK}, {example(), example()[2], true, api.OK},
		{nil, api.Half{A: 1, B: 1, C: 96}, true, api.OK}, {nil, api.Half{A: 1, B: 1, C: 95}, false, api.OK}, {nil, api.Half{A: -1, B: -1}, true, api.OK}, {nil, api.Half{A: 1000, B: -1000, C: 48000}, true, api.OK}, {nil, api.Half{A: 1000, B: -1000, C: 47999}, false, api.OK},
		{empty, api.Half{A: 1, C: -1 << 18}, true, api.OK}, {empty, api.Half{B: 1, C: -3}, true, api.OK},
		{example(), api.Half{}, false, api.ErrArg}, {example(), api.Half{A: 1001, C: 1}, false, api.ErrArg}, {empty, api.Half{}, false, api.ErrArg}, {empty, api.Half{A: 1, C: 1<<18 + 1}, false, api.ErrArg}, {nil, api.Half{A: 1, C: math.MinInt}, false, api.ErrArg},
	} {
		if is, e := half.Implied(x.l, x.h); is != x.is || e != x.e {
			t.Error(x.l, x.h, is, e, "instead of", x.is, x.e)
		}
	}
}

// touching returns a half-plane whose edge goes near a corner of a system, if it has one.
func touching(r *rand.Rand, l []api.Half) api.Half {
	c := plainCorners(l)
	if len(c) == 0 {
		return anyHalf(r)
	}
	a, b := slope(r, 6)
	v := plainGreatest(api.Form{X: a, Y: b}, c)
	n := v.Num().Int64() / v.Denom().Int64()
	return api.Half{A: a, B: b, C: int(n) + upTo(r, 1)}
}

func TestP3_9RandomImplied(t *testing.T) {
	r := random(21)
	count := map[bool]int{}
	for range 2000 {
		l := randomSystem(r, 9)
		h := touching(r, l)
		c := plainCorners(l)
		want := !slices.ContainsFunc(c, func(p api.Corner) bool { return beyond(h, pointOf(p)) > 0 })
		if is, e := half.Implied(l, h); e != api.OK || is != want {
			t.Fatal(l, h, is, e, "instead of", want)
		}
		if c != nil {
			count[want]++
		}
	}
	if count[true] < 300 || count[false] < 300 {
		t.Error("seldom:", count)
	}
}

func TestP3_10SpareAndThin(t *testing.T) {
	l := append(example(), api.Half{A: 2, B: 2, C: 20}, api.Half{A: 1, C: 20}, api.Half{A: 1, B: 1, C: 9})
	for _, x := range []struct {
		l           []api.Half
		spare, thin []int
	}{
		{l, []int{0, 3, 4}, []int{1, 2, 5}}, {l[:4:4], []int{0, 3}, []int{0, 1, 2}}, {l[:5:5], []int{0, 3, 4}, []int{0, 1, 2}}, {l[1:5:5], []int{3}, []int{0, 1, 2}}, {example(), nil, []int{0, 1, 2}},
		{nil, nil, nil}, {square(), []int{0, 1, 2, 3}, nil}, {[]api.Half{{A: 1, B: 1, C: 96}}, []int{0}, nil}, {[]api.Half{{A: 1, B: 1, C: 95}}, nil, []int{0}},
		{[]api.Half{{A: 1, C: -1}}, nil, []int{0}}, {[]api.Half{{A: 1, C: -1}, {A: 1, C: -1}}, []int{0, 1}, []int{0}}, {[]api.Half{{B: 1, C: 3}, {A: 1, C: -1}, {A: -1, C: -49}}, []int{0, 1, 2}, []int{1}},
		{[]api.Half{{A: 1, C: 7}, {A: -1, C: -7}, {A: 2, C: 14}}, []int{0, 2}, []int{0, 1}},
		// Each of four lines through a point can be left out, but not all.
		{[]api.Half{{A: 1, B: 1, C: 10}, {A: -1, B: -1, C: -10}, {A: 1, B: -1}, {A: -1, B: 1}, {A: 1, C: 5}, {A: -1, C: -5}}, []int{0, 1, 2, 3, 4, 5}, []int{0, 1, 2, 3}},
		{slices.Repeat([]api.Half{{A: 1, C: 5}}, 40), upwards(make([]api.Half, 40)), []int{0}},
	} {
		if got, e := half.Spare(x.l); e != api.OK || !slices.Equal(got, x.spare) {
			t.Error("Spare:", x.l, got, e, "instead of", x.spare)
		}
		if got, e := half.Thin(x.l); e != api.OK || !slices.Equal(got, x.thin) {
			t.Error("Thin:", x.l, got, e, "instead of", x.thin)
		}
	}
}

func TestP3_10RandomSpareAndThin(t *testing.T) {
	r := random(22)
	var k kinds
	for range 700 {
		l := randomSystem(r, 9)
		if len(l) > 0 && r.IntN(2) == 0 {
			l = append(l, touching(r, l))
		}
		k.count(plainCorners(l))
		var spare []int
		for i := range l {
			if plainSame(without(l, i), l) {
				spare = append(spare, i)
			}
		}
		if got, e := half.Spare(l); e != api.OK || !slices.Equal(got, spare) {
			t.Fatal("Spare:", l, got, e, "instead of", spare)
		}
		thin := plainFewer(l, downwards(l))
		if got, e := half.Thin(l); e != api.OK || !slices.Equal(got, thin) {
			t.Fatal("Thin:", l, got, e, "instead of", thin)
		}
	}
	if k.least() < 20 {
		t.Error("some kinds of polygons are seldom:", k)
	}
}

func TestP3_11Hull(t *testing.T) {
	for _, x := range []struct {
		l    []api.Place
		want []api.Half
	}{
		{[]api.Place{{}, {X: 2}, {Y: 2}, {X: 1, Y: 1}}, []api.Half{{B: -2}, {A: 2, B: 2, C: 4}, {A: -2}}},
		{[]api.Place{{X: 3, Y: 4}, {X: 3, Y: 4}}, []api.Half{{A: -1, C: -3}, {A: 1, C: 3}, {B: -1, C: -4}, {B: 1, C: 4}}}, {[]api.Place{{}}, []api.Half{{A: -1}, {A: 1}, {B: -1}, {B: 1}}}, {[]api.Place{{X: 48, Y: 48}}, []api.Half{{A: -1, C: -48}, {A: 1, C: 48}, {B: -1, C: -48}, {B: 1, C: 48}}},
		{[]api.Place{{X: 2, Y: 1}, {}, {X: 4, Y: 2}}, []api.Half{{A: 2, B: -4}, {A: -2, B: 4}, {A: -4, B: -2}, {A: 4, B: 2, C: 20}}},
		{[]api.Place{{X: 5, Y: 9}, {X: 5, Y: 2}, {X: 5, Y: 4}, {X: 5, Y: 9}}, []api.Half{{A: 7, C: 35}, {A: -7, C: -35}, {B: -7, C: -14}, {B: 7, C: 63}}}, {[]api.Place{{X: 7, Y: 3}, {X: 4, Y: 3}}, []api.Half{{B: -3, C: -9}, {B: 3, C: 9}, {A: -3, C: -12}, {A: 3, C: 21}}}, {[]api.Place{{X: 1, Y: 3}, {X: 2, Y: 1}}, []api.Half{{A: -2, B: -1, C: -5}, {A: 2, B: 1, C: 5}, {A: -1, B: 2, C: 5}, {A: 1, B: -2}}},
		{[]api.Place{{X: 48, Y: 48}, {X: 48}, {Y: 48}, {}, {X: 24, Y: 48}, {Y: 7}, {X: 48, Y: 47}, {X: 9}}, []api.Half{{B: -48}, {A: 48, C: 48 * 48}, {B: 48, C: 48 * 48}, {A: -48}}},
		{[]api.Place{{X: 3, Y: 3}, {X: 1, Y: 1}, {X: 2, Y: 4}}, []api.Half{{A: 2, B: -2}, {A: 1, B: 1, C: 6}, {A: -3, B: 1, C: -2}}},
	} {
		if got, e := half.Hull(x.l); e != api.OK || !slices.Equal(got, x.want) {
			t.Error(x.l, got, e, "instead of", x.want)
		}
	}
}

func TestP3_11HullErrors(t *testing.T) {
	for _, x := range []struct {
		l []api.Place
		e api.Errno
	}{
		{nil, api.ErrNone}, {[]api.Place{}, api.ErrNone}, {[]api.Place{{X: 49}}, api.ErrArg}, {[]api.Place{{Y: 49}}, api.ErrArg}, {[]api.Place{{X: -1}}, api.ErrArg}, {[]api.Place{{X: 1}, {X: 2}, {Y: -1}}, api.ErrArg},
		{[]api.Place{{X: 1}, {X: 2}, {X: 3, Y: 7}, {X: math.MaxInt, Y: 3}}, api.ErrArg}, {[]api.Place{{X: 1}, {X: 2, Y: math.MinInt}, {Y: 3}}, api.ErrArg},
	} {
		if got, e := half.Hull(x.l); e != x.e || len(got) != 0 {
			t.Error(x.l, got, e, "instead of", x.e)
		}
	}
}

// plainEdges returns the edges of a hull of at least three corners: those with no place to their right, and none behind their ends.
func plainEdges(l []api.Place) map[api.Half]bool {
	out := map[api.Half]bool{}
	for _, p := range l {
		for _, q := range l {
			h := api.Half{A: q.Y - p.Y, B: p.X - q.X}
			h.C = h.A*p.X + h.B*p.Y
			edge := p != q
			for _, s := range l {
				v := h.A*s.X + h.B*s.Y
				within := min(p.X, q.X) <= s.X && s.X <= max(p.X, q.X) && min(p.Y, q.Y) <= s.Y && s.Y <= max(p.Y, q.Y)
				edge = edge && (v < h.C || v == h.C && within)
			}
			if edge {
				out[h] = true
			}
		}
	}
	return out
}

// start returns the lowest of the places farthest west, and end the highest of those farthest east.
func start(l []api.Place) (api.Place, api.Place) {
	order := func(p, q api.Place) int { return (p.X-q.X)*1000 + p.Y - q.Y }
	return slices.MinFunc(l, order), slices.MaxFunc(l, order)
}

func somePlaces(r *rand.Rand) []api.Place {
	n, most := 1+r.IntN(12), 1+r.IntN(48)
	var out []api.Place
	for range n {
		out = append(out, api.Place{X: r.IntN(most + 1), Y: r.IntN(most + 1)})
	}
	if r.IntN(3) == 0 { // on a line
		a, b := slope(r, 2)
		for i := range out {
			k := upTo(r, 9)
			out[i] = api.Place{X: 24 + k*a, Y: 24 + k*b}
		}
	}
	return out
}

func TestP3_11RandomHulls(t *testing.T) {
	r := random(23)
	count := map[int]int{}
	for range 3000 {
		l := somePlaces(r)
		p, q := start(l)
		got, e := half.Hull(l)
		if e != api.OK || half.Check(got) != api.OK {
			t.Fatal(l, got, e)
		}
		edges := plainEdges(l)
		var want []api.Half
		switch {
		case p == q:
			want = []api.Half{{A: -1, C: -p.X}, {A: 1, C: p.X}, {B: -1, C: -p.Y}, {B: 1, C: p.Y}}
		case len(edges) == 2:
			d := api.Place{X: q.X - p.X, Y: q.Y - p.Y}
			c := d.Y*p.X - d.X*p.Y
			want = []api.Half{{A: d.Y, B: -d.X, C: c}, {A: -d.Y, B: d.X, C: -c}, {A: -d.X, B: -d.Y, C: -d.X*p.X - d.Y*p.Y}, {A: d.X, B: d.Y, C: d.X*q.X + d.Y*q.Y}}
		default:
			// Turning left from the first one on: each edge goes on where the one before ends.
			for at := p; len(want) < len(edges); {
				for h := range edges {
					if h.A*at.X+h.B*at.Y == h.C && edges[h] && slices.Contains(l, api.Place{X: at.X - h.B, Y: at.Y + h.A}) {
						want = append(want, h)
						at = api.Place{X: at.X - h.B, Y: at.Y + h.A}
						break
					}
				}
			}
		}
		count[min(len(edges), 4)]++
		if !slices.Equal(got, want) {
			t.Fatal(l, got, "instead of", want)
		}
	}
	if count[0] < 50 || count[2] < 50 || count[3] < 50 || count[4] < 50 {
		t.Error("seldom:", count)
	}
}

// round returns the corners of a polygon in the map with 46 edges, more than a system has half-planes: short steps in different directions, by their angles.
func round() []api.Place {
	steps := []api.Place{{X: 1, Y: 5}, {X: -1, Y: -5}, {X: 5, Y: -1}, {X: -5, Y: 1}, {X: 1, Y: -5}, {X: -1, Y: 5}}
	for x := -4; x <= 4; x++ {
		for y := -4; y <= 4; y++ {
			if n := max(x, -x) + max(y, -y); n > 0 && n < 6 && plainValid(9, max(x, -x, y, -y), x, y) {
				steps = append(steps, api.Place{X: x, Y: y})
			}
		}
	}
	angle := func(p api.Place) float64 { return math.Atan2(float64(p.Y), float64(p.X)) }
	slices.SortFunc(steps, func(p, q api.Place) int {
		if angle(p) < angle(q) {
			return -1
		}
		return 1
	})
	var at api.Place
	var out []api.Place
	for _, s := range steps {
		at = api.Place{X: at.X + s.X, Y: at.Y + s.Y}
		out = append(out, at)
	}
	west := slices.MinFunc(out, func(p, q api.Place) int { return p.X - q.X }).X
	south := slices.MinFunc(out, func(p, q api.Place) int { return p.Y - q.Y }).Y
	for i := range out {
		out[i].X -= west
		out[i].Y -= south
	}
	return out
}

// A hull can have more edges than a system may have half-planes; it has all of them.
func TestP3_11HullOfManyPlaces(t *testing.T) {
	l := round()
	for range 3 {
		l = append(l, l...) // all of them several times, and not in order
	}
	random(24).Shuffle(len(l), func(i, j int) { l[i], l[j] = l[j], l[i] })
	if got, e := half.Hull(l); e != api.OK || len(got) != 46 {
		t.Error(len(got), e)
	}
	var all []api.Place
	for x := range 49 {
		for y := range 49 {
			all = append(all, api.Place{X: x, Y: y})
		}
	}
	if got, e := half.Hull(all); e != api.OK || !slices.Equal(got, []api.Half{{B: -48}, {A: 48, C: 48 * 48}, {B: 48, C: 48 * 48}, {A: -48}}) {
		t.Error(got, e)
	}
}

func TestP3_12Back(t *testing.T) {
	for _, x := range []struct {
		h, want api.Half
		e       api.Errno
	}{
		{api.Half{A: 1, B: -2, C: 3}, api.Half{A: -1, B: 2, C: -3}, api.OK}, {api.Half{A: -1000, B: 1000, C: -1 << 18}, api.Half{A: 1000, B: -1000, C: 1 << 18}, api.OK}, {api.Half{B: 1}, api.Half{B: -1}, api.OK},
		{api.Half{}, api.Half{}, api.ErrArg}, {api.Half{C: 7}, api.Half{}, api.ErrArg}, {api.Half{A: 1001}, api.Half{}, api.ErrArg}, {api.Half{B: -1001}, api.Half{}, api.ErrArg}, {api.Half{A: 1, C: 1<<18 + 1}, api.Half{}, api.ErrArg}, {api.Half{A: math.MinInt}, api.Half{}, api.ErrArg},
	} {
		if h, e := half.Back(x.h); h != x.want || e != x.e {
			t.Error(x.h, h, e, "instead of", x.want, x.e)
		}
	}
}

func TestP3_12Same(t *testing.T) {
	for _, x := range []struct {
		l, m []api.Half
		is   bool
	}{
		{example(), append(example(), api.Half{A: 2, B: 2, C: 20}, api.Half{A: 1, C: 20}), true}, {example(), append(example(), api.Half{A: 1, B: 1, C: 9}), false}, {example(), example()[:2], false}, {nil, square(), true}, {nil, nil, true},
		{[]api.Half{{A: 1, C: -1}}, []api.Half{{B: 1, C: -1}}, true}, {[]api.Half{{A: 1, C: -1}}, nil, false}, {nil, []api.Half{{A: 1, C: -1}}, false},
		{[]api.Half{{A: 1}}, []api.Half{{A: 2}, {A: -1}}, true}, {[]api.Half{{A: 1, B: 1}}, []api.Half{{A: 1}, {B: 1}}, true}, {[]api.Half{{A: 1, B: 1}}, []api.Half{{A: 1}}, false},
		{[]api.Half{{A: 1000, C: 7001}}, []api.Half{{A: 1000, C: 7000}}, false}, {[]api.Half{{A: 1, C: 48}}, []api.Half{{A: 1, C: 1 << 18}}, true},
	} {
		if is, e := half.Same(x.l, x.m); is != x.is || e != api.OK {
			t.Error(x.l, x.m, is, e)
		}
		if is, e := half.Same(x.m, x.l); is != x.is || e != api.OK {
			t.Error(x.m, x.l, is, e)
		}
	}
	wrong, many := []api.Half{{}}, make([]api.Half, 41)
	if is, e := half.Same(wrong, many); is || e != api.ErrArg {
		t.Error(is, e)
	}
	if is, e := half.Same(many, wrong); is || e != api.ErrLimit {
		t.Error(is, e)
	}
}

func TestP3_12RandomSame(t *testing.T) {
	r := random(25)
	same := 0
	for range 1500 {
		l := randomSystem(r, 8)
		m := slices.Clone(l)
		if h := touching(r, l); r.IntN(2) == 0 {
			m = append(m, h)
		} else if len(m) > 0 {
			m = without(m, r.IntN(len(m)))
		}
		want := plainSame(l, m)
		if is, e := half.Same(l, m); e != api.OK || is != want {
			t.Fatal(l, m, is, e, "instead of", want)
		}
		if want && len(plainCorners(l)) > 0 {
			same++
		}
	}
	if same < 200 || same > 1300 {
		t.Error("same:", same)
	}
}
