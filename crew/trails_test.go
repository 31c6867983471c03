package crew_test

import (
	"math"
	"math/rand/v2"
	"slices"
	"testing"

	"firetower/api"
	"firetower/crew"
)

func TestP9_1CheckRightTrails(t *testing.T) {
	last := api.Trail{ID: 1 << 40, A: at(48, 48), B: at(0, 48), Fast: 1440, Slow: 1440, Closed: []api.Span{span(0, 0), span(1, 1<<20)}}
	first := api.Trail{ID: 1, A: at(0, 0), B: at(0, 1), Fast: 1, Slow: 1, Closed: manySpans(8)}
	full := api.Trail{ID: 2, A: at(48, 0), B: at(0, 0), Fast: 1, Slow: 1440, Closed: []api.Span{span(0, 1<<20)}}
	for _, l := range [][]api.Trail{nil, {}, example(), {last}, {first}, {last, first, full}, manyTrails(40)} {
		mustBe(t, crew.Check(l), api.OK, l)
	}
	parallel := []api.Trail{{ID: 7, A: at(1, 1), B: at(2, 2), Fast: 1, Slow: 2}, {ID: 3, A: at(2, 2), B: at(1, 1), Fast: 1, Slow: 2}}
	mustBe(t, crew.Check(parallel), api.OK, "two trails between the same places")
}

func TestP9_1CheckWrongTrails(t *testing.T) {
	for _, x := range wrongTrails() {
		l := example()
		x.do(&l)
		mustBe(t, crew.Check(l), x.e, x.name, l)
	}
}

func TestP9_1CheckWrongTrailsAmongMany(t *testing.T) {
	for _, i := range []int{0, 17, 39} {
		for _, x := range slices.Concat(wrongEnds(), wrongWalks(), wrongClosings()) {
			l := manyTrails(40)
			x.do(&l[i])
			mustBe(t, crew.Check(l), x.e, x.name, l[i])
		}
	}
	l := manyTrails(40)
	l[39].ID = l[0].ID
	mustBe(t, crew.Check(l), api.ErrTwice, "the last one with the ID of the first one")
}

func TestP9_1Enter(t *testing.T) {
	long := api.Trail{Fast: 1, Slow: 1, Closed: []api.Span{span(0, 4), span(5, 9), span(10, 10), span(12, 20), span(1<<20-1, 1<<20)}}
	for _, x := range []struct {
		t          api.Trail
		tick, want int
	}{
		{example()[0], 90, 90}, {example()[0], 99, 99}, {example()[0], 100, 150}, {example()[0], 149, 150}, {example()[0], 150, 150},
		{long, -1, -1}, {long, 0, 11}, {long, 4, 11}, {long, 5, 11}, {long, 10, 11}, {long, 11, 11}, {long, 12, 21}, {long, 20, 21}, {long, 21, 21},
		{long, 1<<20 - 2, 1<<20 - 2}, {long, 1<<20 - 1, 1<<20 + 1}, {long, 1 << 20, 1<<20 + 1}, {long, 1<<20 + 1, 1<<20 + 1},
		{long, math.MaxInt, math.MaxInt}, {long, math.MinInt, math.MinInt}, {long, -1 << 40, -1 << 40},
		{api.Trail{Fast: 1, Slow: 1440, Closed: []api.Span{span(0, 1<<20)}}, 0, 1<<20 + 1},
		{api.Trail{Fast: 1440, Slow: 1440}, -5, -5},
	} {
		if n, is := crew.Enter(x.t, x.tick); n != x.want || !is {
			t.Error(x, n, is)
		}
	}
}

func TestP9_1EnterOfWrongTrails(t *testing.T) {
	for _, x := range slices.Concat(wrongWalks(), wrongClosings()) {
		for _, tick := range []int{-7, 0, 5, 400, math.MaxInt} {
			k := example()[0]
			x.do(&k)
			if n, is := crew.Enter(k, tick); n != 0 || is {
				t.Error(x.name, tick, n, is)
			}
		}
	}
	for _, x := range wrongEnds() {
		k := example()[0]
		x.do(&k)
		if n, is := crew.Enter(k, 120); n != 150 || !is {
			t.Error("the ID and the ends matter:", x.name, n, is)
		}
	}
}

func TestP9_1EnterAtRandom(t *testing.T) {
	r := random(1)
	waited := 0
	for range 3000 {
		k := randomTrail(r, 1)
		for tick := -2; tick < 70; tick++ {
			n, is := crew.Enter(k, tick)
			if want := plainEnter(k, tick); n != want || !is {
				t.Fatal(k, tick, n, is, "instead of", want)
			}
			if n > tick {
				waited++
			}
		}
	}
	counted(t, "minutes of waiting", waited, 10000)
}

// closed returns the trails that Close must return.
func closed(l []api.Trail, i int, spans ...api.Span) []api.Trail {
	out := copyOf(l)
	out[i].Closed = spans
	return out
}

func TestP9_5Close(t *testing.T) {
	l := example()
	l[1].Closed = []api.Span{span(3, 5), span(6, 9), span(20, 30), span(40, 50)}
	l[2].Closed = []api.Span{span(0, 4), span(5, 9)}
	for _, x := range []struct {
		id   int
		s    api.Span
		want []api.Trail
	}{
		{1, span(150, 160), closed(l, 0, span(100, 160))},
		{1, span(151, 160), closed(l, 0, span(100, 149), span(151, 160))},
		{1, span(90, 99), closed(l, 0, span(90, 149))},
		{1, span(90, 98), closed(l, 0, span(90, 98), span(100, 149))},
		{1, span(110, 120), closed(l, 0, span(100, 149))},
		{1, span(100, 149), closed(l, 0, span(100, 149))},
		{1, span(0, 1<<20), closed(l, 0, span(0, 1<<20))},
		{1, span(0, 0), closed(l, 0, span(0, 0), span(100, 149))},
		{1, span(1<<20, 1<<20), closed(l, 0, span(100, 149), span(1<<20, 1<<20))},
		{2, span(60, 60), closed(l, 1, span(3, 9), span(20, 30), span(40, 50), span(60, 60))},
		{2, span(4, 4), closed(l, 1, span(3, 9), span(20, 30), span(40, 50))},
		{2, span(10, 19), closed(l, 1, span(3, 30), span(40, 50))},
		{2, span(25, 45), closed(l, 1, span(3, 9), span(20, 50))},
		{2, span(31, 39), closed(l, 1, span(3, 9), span(20, 50))},
		{2, span(0, 60), closed(l, 1, span(0, 60))},
		{2, span(2, 3), closed(l, 1, span(2, 9), span(20, 30), span(40, 50))},
		{3, span(11, 11), closed(l, 2, span(0, 9), span(11, 11))},
	} {
		if got, e := crew.Close(l, x.id, x.s); e != api.OK || !sameTrails(got, x.want) {
			t.Error(x.id, x.s, got, e, "instead of", x.want)
		}
	}
}

func TestP9_5CloseErrors(t *testing.T) {
	l := manyTrails(3)
	l[0].Closed = manySpans(8)                           // 0 to 1, 3 to 4 and so on, up to 21 to 22
	l[1].Closed = append(manySpans(7), span(20, 21))     // two of them are neighbours
	l[2].Closed = append(manySpans(7)[:6], span(18, 30)) // 7 spans
	for _, x := range []struct {
		id int
		s  api.Span
		e  api.Errno
	}{
		{4, span(0, 5), api.ErrNone}, {0, span(0, 5), api.ErrNone}, {-1, span(0, 5), api.ErrNone},
		{4, span(5, 0), api.ErrNone}, {4, span(-1, 0), api.ErrNone}, {4, span(0, 1<<20+1), api.ErrNone},
		{3, span(5, 4), api.ErrArg}, {3, span(-1, 4), api.ErrArg}, {3, span(4, 1<<20+1), api.ErrArg}, {3, span(1<<20+1, 1<<20+1), api.ErrArg},
		{3, span(-2, -1), api.ErrArg}, {3, span(math.MinInt, math.MaxInt), api.ErrArg}, {3, span(50, 40), api.ErrArg},
		{3, span(50, 50), api.ErrLimit}, {3, span(24, 1<<20), api.ErrLimit}, {3, span(23, 24), api.OK}, {3, span(2, 2), api.OK}, {3, span(5, 50), api.OK}, {3, span(0, 0), api.OK},
		{2, span(50, 50), api.OK}, {2, span(23, 23), api.OK}, {1, span(50, 50), api.OK},
	} {
		got, e := crew.Close(l, x.id, x.s)
		mustBe(t, e, x.e, "Close", x)
		if (e == api.OK) != (len(got) == 3) || e != api.OK && len(got) > 0 {
			t.Error(x, got)
		}
	}
}

// spread returns a trail with spans that are far enough apart to become too many.
func spread(r *rand.Rand, id int) api.Trail {
	out := randomTrail(r, id)
	out.Closed = nil
	for lo := r.IntN(3); lo < 60 && len(out.Closed) < 8; lo += 1 + r.IntN(5) {
		out.Closed = append(out.Closed, span(lo, lo+r.IntN(3)))
		lo = out.Closed[len(out.Closed)-1].Hi
	}
	return out
}

func TestP9_5CloseAtRandom(t *testing.T) {
	r := random(2)
	limits, united := 0, 0
	for range 4000 {
		l := []api.Trail{spread(r, 5), spread(r, 2), randomTrail(r, 9)}
		lo := r.IntN(70)
		s := span(lo, lo+r.IntN(12))
		i := r.IntN(3)
		spans := plainUnited(append(slices.Clone(l[i].Closed), s))
		got, e := crew.Close(l, l[i].ID, s)
		if len(spans) > 8 {
			limits++
			if e != api.ErrLimit {
				t.Fatal(l, s, e)
			}
			continue
		}
		if e != api.OK || !sameTrails(got, closed(l, i, spans...)) || crew.Check(got) != api.OK {
			t.Fatal(l, l[i].ID, s, got, e, "instead of", spans)
		}
		if len(spans) < len(l[i].Closed) {
			united++
		}
	}
	counted(t, "limits", limits, 100)
	counted(t, "spans that became one", united, 500)
}
