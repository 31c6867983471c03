package crew_test

import (
	"math"
	"slices"
	"testing"

	"firetower/api"
	"firetower/crew"
)

// arrived returns arrivals at the places of the example.
func arrived(a, b, c int) []api.Arrival {
	return []api.Arrival{{At: at(0, 0), Tick: a}, {At: at(10, 0), Tick: b}, {At: at(10, 10), Tick: c}}
}

func TestP9_2SurestAndSoonest(t *testing.T) {
	for _, x := range []struct {
		from          api.Place
		tick          int
		surest, quick []api.Arrival
	}{
		{at(0, 0), 0, arrived(0, 40, 90), arrived(0, 30, 50)},
		{at(0, 0), 99, arrived(99, 139, 189), arrived(99, 129, 149)},
		{at(0, 0), 110, arrived(110, 190, 230), arrived(110, 180, 190)},
		{at(0, 0), 140, arrived(140, 190, 240), arrived(140, 180, 200)},
		{at(10, 10), 0, arrived(90, 50, 0), arrived(50, 20, 0)},
		{at(10, 10), 60, arrived(180, 110, 60), arrived(110, 80, 60)},
		{at(10, 0), 1 << 20, arrived(1<<20+40, 1<<20, 1<<20+50), arrived(1<<20+30, 1<<20, 1<<20+20)},
	} {
		if got, e := crew.Surest(example(), x.from, x.tick); e != api.OK || !slices.Equal(got, x.surest) {
			t.Error(x, got, e)
		}
		if got, e := crew.Soonest(example(), x.from, x.tick); e != api.OK || !slices.Equal(got, x.quick) {
			t.Error(x, got, e)
		}
	}
}

func TestP9_2PlacesOfTrails(t *testing.T) {
	far := []api.Arrival{{At: at(0, 0), Tick: -1}, {At: at(10, 0), Tick: -1}, {At: at(5, 4), Tick: 7}, {At: at(10, 10), Tick: -1}}
	alone := []api.Arrival{{At: at(48, 0), Tick: 3}}
	closed := []api.Trail{{ID: 1, A: at(0, 48), B: at(48, 0), Fast: 1440, Slow: 1440, Closed: []api.Span{span(0, 1<<20)}}}
	late := []api.Arrival{{At: at(48, 0), Tick: 1<<20 + 1441}, {At: at(0, 48), Tick: 9}}
	for _, x := range []struct {
		l    []api.Trail
		from api.Place
		tick int
		want []api.Arrival
	}{
		{example(), at(5, 4), 7, far}, {nil, at(48, 0), 3, alone}, {closed, at(0, 48), 9, late},
	} {
		for _, f := range []func([]api.Trail, api.Place, int) ([]api.Arrival, api.Errno){crew.Surest, crew.Soonest} {
			if got, e := f(x.l, x.from, x.tick); e != api.OK || !slices.Equal(got, x.want) {
				t.Error(x, got, e)
			}
		}
	}
}

func TestP9_2LongChain(t *testing.T) {
	l := manyTrails(40)
	for i := range l {
		l[i] = api.Trail{ID: 40 - i, A: at(40-i, 1), B: at(39-i, 1), Fast: 1000, Slow: 1440}
	}
	a := surest(t, l, at(0, 1), 1<<20)
	quick, e := crew.Soonest(l, at(0, 1), 1<<20)
	for i := range 41 {
		if a[i] != (api.Arrival{At: at(i, 1), Tick: 1<<20 + 1440*i}) || e != api.OK || quick[i].Tick != 1<<20+1000*i {
			t.Error(i, a[i], quick, e)
		}
	}
	w, e := crew.Way(l, at(0, 1), at(40, 1), 1<<20)
	if len(w) != 40 || e != api.OK || w[39] != (api.Stage{Trail: 40, Tick: 1<<20 + 39*1440}) {
		t.Error(w, e)
	}
	if n, e := crew.CheckWay(l, at(0, 1), at(40, 1), 1<<20, w); n != 1<<20+40*1440 || e != api.OK {
		t.Error(n, e)
	}
	if needed, e := crew.Needed(l, at(0, 1), at(40, 1), 0); len(needed) != 40 || e != api.OK || needed[0] != 1 || needed[39] != 40 {
		t.Error(needed, e)
	}
}

func TestP9_2AtRandom(t *testing.T) {
	r := random(3)
	never, waits := 0, 0
	for range 1500 {
		l := randomTrails(r)
		from, tick := oneOf(r, append(grid(), at(6, 6))), r.IntN(70)
		want := plainArrivals(l, from, tick, slow)
		if got, e := crew.Surest(l, from, tick); e != api.OK || !slices.Equal(got, want) {
			t.Fatal("Surest", l, from, tick, got, e, "instead of", want)
		}
		quick := plainArrivals(l, from, tick, fast)
		if got, e := crew.Soonest(l, from, tick); e != api.OK || !slices.Equal(got, quick) {
			t.Fatal("Soonest", l, from, tick, got, e, "instead of", quick)
		}
		always := copyOf(l)
		for i := range always {
			always[i].Closed = nil
		}
		for i, a := range plainArrivals(always, from, tick, slow) {
			if a.Tick < 0 {
				never++
			} else if a.Tick < want[i].Tick {
				waits++
			}
		}
	}
	counted(t, "places where nobody ever is", never, 500)
	counted(t, "places where trails that are closed matter", waits, 500)
}

func TestP9_3Way(t *testing.T) {
	for _, x := range []struct {
		from, to api.Place
		tick     int
		e        api.Errno
		want     []api.Stage
	}{
		{at(0, 0), at(10, 10), 0, api.OK, way(1, 0, 2, 40)},
		{at(0, 0), at(10, 10), 110, api.OK, way(3, 110)},
		{at(10, 10), at(0, 0), 0, api.OK, way(2, 0, 1, 50)},
		{at(0, 0), at(10, 0), 120, api.OK, way(1, 150)},
		{at(0, 0), at(0, 0), 5, api.OK, nil},
		{at(7, 7), at(7, 7), 5, api.OK, nil},
		{at(0, 0), at(1, 0), 0, api.ErrNone, nil},
		{at(1, 0), at(0, 0), 0, api.ErrNone, nil},
		{at(0, 0), at(49, 0), 0, api.ErrArg, nil},
		{at(0, -1), at(0, 0), 0, api.ErrArg, nil},
		{at(49, 49), at(49, 49), 0, api.ErrArg, nil},
		{at(0, 0), at(1, 0), -1, api.ErrArg, nil},
		{at(0, 0), at(10, 0), 1<<20 + 1, api.ErrArg, nil},
	} {
		if got, e := crew.Way(example(), x.from, x.to, x.tick); e != x.e || !slices.Equal(got, x.want) {
			t.Error(x, got, e)
		}
	}
}

func TestP9_3WayAtRandom(t *testing.T) {
	r := random(4)
	long, none := 0, 0
	for range 1500 {
		l := randomTrails(r)
		from, to, tick := oneOf(r, grid()), oneOf(r, grid()), r.IntN(70)
		want := plainSurest(l, from, to, tick)
		w, e := crew.Way(l, from, to, tick)
		if want < 0 {
			none++
			if e != api.ErrNone || len(w) > 0 {
				t.Fatal(l, from, to, tick, w, e)
			}
			continue
		}
		if n, f := plainCheckWay(l, from, to, tick, w); e != api.OK || f != api.OK || n != want || len(w) > 40 {
			t.Fatal(l, from, to, tick, w, e, n, f, "instead of", want)
		}
		if from == to && len(w) > 0 {
			t.Fatal("stages to where one is:", w)
		}
		if len(w) > 1 {
			long++
		}
	}
	counted(t, "ways of several stages", long, 200)
	counted(t, "places without a way", none, 100)
}

func TestP9_3CheckWay(t *testing.T) {
	start, mid, end := at(0, 0), at(10, 0), at(10, 10)
	for _, x := range []struct {
		from, to api.Place
		tick     int
		w        []api.Stage
		n        int
		e        api.Errno
	}{
		{start, end, 0, way(1, 0, 2, 40), 90, api.OK},
		{start, end, 0, way(1, 7, 2, 60), 110, api.OK},
		{start, end, 0, way(1, 0, 2, 39), 0, api.ErrProof},
		{start, end, 1, way(1, 0, 2, 41), 0, api.ErrProof},
		{start, end, 90, way(1, 100, 2, 140), 0, api.ErrProof},
		{start, end, 90, way(1, 149, 2, 190), 0, api.ErrProof},
		{start, end, 90, way(1, 150, 2, 190), 240, api.OK},
		{start, end, 90, way(1, 99, 2, 139), 189, api.OK},
		{start, end, 0, way(3, 5), 125, api.OK},
		{end, start, 0, way(3, 5), 125, api.OK},
		{start, end, 0, way(4, 5), 0, api.ErrProof},
		{start, end, 0, way(0, 5), 0, api.ErrProof},
		{start, mid, 0, way(3, 5), 0, api.ErrProof},
		{start, start, 0, way(3, 5), 0, api.ErrProof},
		{mid, end, 0, way(3, 5), 0, api.ErrProof},
		{at(4, 4), end, 0, way(3, 5), 0, api.ErrProof},
		{start, at(4, 4), 0, way(3, 5), 0, api.ErrProof},
		{start, end, 0, way(2, 5, 1, 90), 0, api.ErrProof},
		{start, end, 0, way(1, 0, 3, 150), 0, api.ErrProof},
		{start, mid, 0, way(3, 0, 2, 120), 170, api.OK},
		{start, start, 0, way(3, 0, 3, 120), 240, api.OK},
		{start, start, 8, nil, 8, api.OK},
		{at(4, 4), at(4, 4), 1 << 20, nil, 1 << 20, api.OK},
		{start, end, 8, nil, 0, api.ErrProof},
		{start, at(4, 4), 8, nil, 0, api.ErrProof},
		{start, end, 8, way(3, 1<<26), 1<<26 + 120, api.OK},
		{start, end, 8, way(3, 1<<26+1), 0, api.ErrProof},
		{start, end, 8, way(1, 1<<26-40, 2, 1<<26), 1<<26 + 50, api.OK},
		{start, end, 8, way(1, 1<<26-39, 2, 1<<26+1), 0, api.ErrProof},
		{start, end, 8, way(3, math.MaxInt), 0, api.ErrProof},
		{start, end, 8, way(1, math.MaxInt, 2, math.MinInt+39), 0, api.ErrProof},
		{start, end, 8, way(3, math.MinInt), 0, api.ErrProof},
		{start, end, 0, way(3, -1), 0, api.ErrProof},
	} {
		if n, e := crew.CheckWay(example(), x.from, x.to, x.tick, x.w); n != x.n || e != x.e {
			t.Error(x, n, e)
		}
	}
}

func TestP9_3CheckWayErrors(t *testing.T) {
	many := func(n int) []api.Stage {
		var out []api.Stage
		for i := range n {
			out = append(out, api.Stage{Trail: 3, Tick: 120 * i})
		}
		return out
	}
	for _, x := range []struct {
		from, to api.Place
		tick     int
		w        []api.Stage
		e        api.Errno
	}{
		{at(0, 0), at(0, 0), 0, many(40), api.OK},
		{at(0, 0), at(10, 10), 0, many(41), api.ErrLimit},
		{at(0, 0), at(0, 0), 0, many(42), api.ErrLimit},
		{at(5, 5), at(10, 10), 0, make([]api.Stage, 41), api.ErrLimit},
		{at(0, 0), at(10, 10), 0, make([]api.Stage, 40), api.ErrProof},
		{at(49, 0), at(10, 10), 0, many(41), api.ErrArg},
		{at(0, 0), at(0, 49), 0, many(41), api.ErrArg},
		{at(0, 0), at(10, 10), -1, many(41), api.ErrArg},
		{at(0, 0), at(10, 10), 1<<20 + 1, many(1), api.ErrArg},
		{at(-1, 0), at(10, 10), 0, many(1), api.ErrArg},
		{at(-1, 0), at(-1, 0), 0, nil, api.ErrArg},
	} {
		if n, e := crew.CheckWay(example(), x.from, x.to, x.tick, x.w); e != x.e || e != api.OK && n != 0 {
			t.Error(x, n, e)
		}
	}
}

func TestP9_3CheckWayAtRandom(t *testing.T) {
	r := random(5)
	right, wrong := 0, 0
	for range 10000 {
		l := randomTrails(r)
		from, to, tick := oneOf(r, grid()), oneOf(r, grid()), r.IntN(70)
		w, _ := crew.Way(l, from, to, tick)
		w = randomWay(r, l, w)
		want, f := plainCheckWay(l, from, to, tick, w)
		if n, e := crew.CheckWay(l, from, to, tick, w); n != want || e != f {
			t.Fatal(l, from, to, tick, w, n, e, "instead of", want, f)
		}
		if f == api.OK && len(w) > 0 {
			right++
		} else if f != api.OK {
			wrong++
		}
	}
	counted(t, "right ways", right, 1000)
	counted(t, "wrong ways", wrong, 1000)
}

func TestP9_4CheckArrivals(t *testing.T) {
	never := func(a []api.Arrival, i int) []api.Arrival {
		a[i].Tick = -1
		return a
	}
	for _, x := range []struct {
		from api.Place
		tick int
		a    []api.Arrival
		e    api.Errno
	}{
		{at(0, 0), 0, arrived(0, 40, 90), api.OK},
		{at(0, 0), 0, arrived(0, 39, 89), api.OK},
		{at(0, 0), 0, arrived(0, 0, 0), api.OK},
		{at(0, 0), 0, arrived(0, 41, 90), api.ErrProof},
		{at(0, 0), 0, arrived(0, 40, 91), api.ErrProof},
		{at(0, 0), 0, arrived(1, 40, 90), api.ErrProof},
		{at(0, 0), 0, never(arrived(0, 40, 90), 0), api.ErrProof},
		{at(0, 0), 0, never(arrived(0, 40, 90), 1), api.ErrProof},
		{at(0, 0), 0, never(arrived(0, 40, 90), 2), api.ErrProof},
		{at(0, 0), 0, arrived(-1, -1, -1), api.ErrProof},
		{at(0, 0), 0, arrived(0, -2, 90), api.ErrProof},
		{at(0, 0), 0, arrived(-2, 40, 90), api.ErrProof},
		{at(0, 0), 110, arrived(110, 190, 230), api.OK},
		{at(0, 0), 110, arrived(0, 40, 90), api.OK},
		{at(0, 0), 110, arrived(99, 139, 189), api.OK},
		{at(0, 0), 110, arrived(110, 190, 231), api.ErrProof},
		{at(0, 0), 110, arrived(111, 190, 231), api.ErrProof},
		{at(0, 0), 110, arrived(99, 190, 219), api.ErrProof},
		{at(10, 10), 0, arrived(90, 50, 0), api.OK},
		{at(10, 10), 0, arrived(91, 50, 0), api.ErrProof},
		{at(10, 10), 0, arrived(90, 51, 0), api.ErrProof},
		{at(10, 0), 1 << 20, arrived(1<<20+40, 1<<20, 1<<20+50), api.OK},
		{at(0, 0), 0, arrived(0, 40, 90)[:2], api.ErrProof},
		{at(0, 0), 0, append(arrived(0, 40, 90), api.Arrival{At: at(11, 11), Tick: -1}), api.ErrProof},
		{at(0, 0), 0, append(arrived(0, 40, 90), api.Arrival{At: at(10, 10), Tick: 90}), api.ErrProof},
		{at(0, 0), 0, nil, api.ErrProof},
		{at(0, 0), 0, []api.Arrival{{At: at(0, 0), Tick: 0}, {At: at(10, 10), Tick: 90}, {At: at(10, 0), Tick: 40}}, api.ErrProof},
		{at(0, 0), 0, []api.Arrival{{At: at(0, 0), Tick: 0}, {At: at(10, 0), Tick: 40}, {At: at(10, 9), Tick: 90}}, api.ErrProof},
		{at(0, 0), 0, []api.Arrival{{At: at(0, 0), Tick: 0}, {At: at(10, 0), Tick: 40}, {At: at(10, 0), Tick: 40}}, api.ErrProof},
	} {
		mustBe(t, crew.CheckArrivals(example(), x.from, x.tick, x.a), x.e, x)
	}
}

func TestP9_4FarPlaces(t *testing.T) {
	far := func(n int) []api.Arrival {
		return []api.Arrival{{At: at(0, 0), Tick: n}, {At: at(10, 0), Tick: n}, {At: at(5, 4), Tick: 7}, {At: at(10, 10), Tick: n}}
	}
	for n, e := range map[int]api.Errno{-1: api.OK, 0: api.OK, 5: api.OK, 1 << 26: api.OK, 1<<26 + 1: api.ErrProof, -2: api.ErrProof, math.MaxInt: api.ErrProof, math.MinInt: api.ErrProof} {
		mustBe(t, crew.CheckArrivals(example(), at(5, 4), 7, far(n)), e, "far places at", n)
		mustBe(t, crew.CheckArrivals(example(), at(5, 4), 6, far(n)), api.ErrProof, "later than the minute", n)
		mustBe(t, crew.CheckArrivals(example(), at(5, 4), 8, far(n)), e, "earlier than the minute", n)
	}
	for _, x := range []struct {
		from api.Place
		tick int
		e    api.Errno
	}{{at(5, 4), -1, api.ErrArg}, {at(5, 4), 1<<20 + 1, api.ErrArg}, {at(5, 49), 7, api.ErrArg}, {at(-1, 4), 7, api.ErrArg}, {at(5, 5), 7, api.ErrProof}} {
		mustBe(t, crew.CheckArrivals(example(), x.from, x.tick, far(-1)), x.e, x)
	}
}

func TestP9_4AtRandom(t *testing.T) {
	r := random(6)
	right, wrong := 0, 0
	for range 6000 {
		l := randomTrails(r)
		from, tick := oneOf(r, append(grid(), at(6, 6))), r.IntN(70)
		a := randomArrivals(r, surest(t, l, from, tick))
		want := api.ErrProof
		if plainCheckArrivals(l, from, tick, a) {
			want = api.OK
			right++
		} else {
			wrong++
		}
		if e := crew.CheckArrivals(l, from, tick, a); e != want {
			t.Fatal(l, from, tick, a, e, "instead of", want)
		}
	}
	counted(t, "right minutes", right, 1000)
	counted(t, "wrong minutes", wrong, 1000)
}

func TestP9_5Needed(t *testing.T) {
	for _, x := range []struct {
		from, to api.Place
		tick     int
		e        api.Errno
		want     []int
	}{
		{at(0, 0), at(10, 10), 0, api.OK, []int{1, 2}},
		{at(0, 0), at(10, 10), 110, api.OK, []int{3}},
		{at(0, 0), at(10, 10), 120, api.OK, nil},
		{at(10, 10), at(0, 0), 0, api.OK, []int{1, 2}},
		{at(0, 0), at(10, 0), 0, api.OK, []int{1}},
		{at(0, 0), at(0, 0), 0, api.OK, nil},
		{at(7, 7), at(7, 7), 0, api.OK, nil},
		{at(0, 0), at(7, 7), 0, api.ErrNone, nil},
		{at(7, 7), at(0, 0), 0, api.ErrNone, nil},
		{at(7, 49), at(0, 0), 0, api.ErrArg, nil},
		{at(0, 0), at(7, -1), 0, api.ErrArg, nil},
		{at(0, 0), at(7, 7), -1, api.ErrArg, nil},
		{at(0, 0), at(10, 10), 1<<20 + 1, api.ErrArg, nil},
	} {
		if got, e := crew.Needed(example(), x.from, x.to, x.tick); e != x.e || !slices.Equal(got, x.want) {
			t.Error(x, got, e)
		}
	}
	alone := []api.Trail{{ID: 8, A: at(1, 1), B: at(2, 2), Fast: 1, Slow: 1}}
	if got, e := crew.Needed(alone, at(1, 1), at(2, 2), 0); e != api.OK || !slices.Equal(got, []int{8}) {
		t.Error("without it the place is none of the trails any more:", got, e)
	}
}

func TestP9_5NeededAtRandom(t *testing.T) {
	r := random(7)
	several, none := 0, 0
	for range 800 {
		l := randomTrails(r)
		from, to, tick := oneOf(r, grid()), oneOf(r, grid()), r.IntN(70)
		got, e := crew.Needed(l, from, to, tick)
		if plainSurest(l, from, to, tick) < 0 {
			if e != api.ErrNone || len(got) > 0 {
				t.Fatal(l, from, to, tick, got, e)
			}
			continue
		}
		if want := plainNeeded(l, from, to, tick); e != api.OK || !slices.Equal(got, want) {
			t.Fatal(l, from, to, tick, got, e, "instead of", want)
		}
		if len(got) > 1 {
			several++
		}
		if len(got) == 0 && from != to {
			none++
		}
	}
	counted(t, "several trails that are needed", several, 50)
	counted(t, "ways without a trail that is needed", none, 20)
}
