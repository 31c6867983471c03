package relay_test

import (
	"math"
	"math/rand/v2"
	"slices"
	"testing"

	"firetower/api"
	"firetower/relay"
)

func TestP2_3Examples(t *testing.T) {
	for _, x := range []struct {
		station, tick int
		early, late   []int
	}{
		{0, 3, []int{3, 8, 22}, []int{3, -1, -1}},
		{0, 16, []int{16, 105, -1}, []int{16, -1, -1}},
		{0, 0, []int{0, 5, 22}, []int{0, -1, -1}},
		{1, 30, []int{-1, 30, 40}, []int{15, 30, -1}},
		{1, 31, []int{-1, 31, -1}, []int{15, 31, -1}},
		{2, 40, []int{-1, -1, 40}, []int{15, 30, 40}},
		{2, 60, []int{-1, -1, 60}, []int{15, 30, 60}},
		{2, 21, []int{-1, -1, 21}, []int{-1, -1, 21}},
		{2, api.MaxTick, []int{-1, -1, api.MaxTick}, []int{15, 30, api.MaxTick}},
	} {
		if l, e := relay.Earliest(example(), x.station, x.tick); e != api.OK || !slices.Equal(l, x.early) {
			t.Error("Earliest:", x.station, x.tick, l, e)
		}
		if l, e := relay.Latest(example(), x.station, x.tick); e != api.OK || !slices.Equal(l, x.late) {
			t.Error("Latest:", x.station, x.tick, l, e)
		}
	}
}

// wrongPlaces are stations and minutes that the example does not have.
func wrongPlaces() [][2]int {
	return [][2]int{{-1, 3}, {3, 3}, {math.MinInt, 3}, {math.MaxInt, 3}, {0, -1}, {0, api.MaxTick + 1}, {0, math.MinInt}, {0, math.MaxInt}}
}

func TestP2_3Errors(t *testing.T) {
	for _, x := range wrongPlaces() {
		if l, e := relay.Earliest(example(), x[0], x[1]); e != api.ErrArg || len(l) != 0 {
			t.Error("Earliest:", x, l, e)
		}
		if l, e := relay.Latest(example(), x[0], x[1]); e != api.ErrArg || len(l) != 0 {
			t.Error("Latest:", x, l, e)
		}
	}
}

func TestP2_3RandomNets(t *testing.T) {
	r := random(3)
	for range 150 {
		n := randomNet(r)
		s, tick := r.IntN(n.Stations), r.IntN(horizon)
		want := reached(n, s, tick)
		if l, e := relay.Earliest(n, s, tick); e != api.OK || !slices.Equal(l, want) {
			t.Fatal("Earliest:", n, s, tick, l, e, "instead of", want)
		}
		want = plainLatest(n, s, tick)
		if l, e := relay.Latest(n, s, tick); e != api.OK || !slices.Equal(l, want) {
			t.Fatal("Latest:", n, s, tick, l, e, "instead of", want)
		}
	}
}

func TestP2_3TheWholeSeason(t *testing.T) {
	const by = api.MaxTick - horizon + 1
	r := random(4)
	for range 100 {
		n := randomNet(r)
		s, tick := r.IntN(n.Stations), r.IntN(horizon)
		want := reached(n, s, tick)
		for i := range want {
			if want[i] >= 0 {
				want[i] += by
			}
		}
		if l, e := relay.Earliest(shifted(n, by), s, tick+by); e != api.OK || !slices.Equal(l, want) {
			t.Fatal("Earliest:", n, s, tick, l, e, "instead of", want)
		}
		want = plainLatest(n, s, tick)
		for i := range want {
			if want[i] >= 0 {
				want[i] += by
			}
		}
		if l, e := relay.Latest(shifted(n, by), s, tick+by); e != api.OK || !slices.Equal(l, want) {
			t.Fatal("Latest:", n, s, tick, l, e, "instead of", want)
		}
	}
}

// A chain whose links stand in the wrong order, with a station for each number that there can be.
func TestP2_3LongestWay(t *testing.T) {
	n := api.Net{Stations: 10}
	for s := 8; s >= 0; s-- {
		n.Links = append(n.Links, api.Link{From: s, To: s + 1, Delay: 1440, Open: []api.Span{{Lo: 0, Hi: api.MaxTick}}})
	}
	var want, late []int
	for s := range 10 {
		want = append(want, 7+1440*s)
		late = append(late, 20000-1440*(9-s))
	}
	if l, e := relay.Earliest(n, 0, 7); e != api.OK || !slices.Equal(l, want) {
		t.Error("Earliest:", l, e)
	}
	if l, e := relay.Latest(n, 9, 20000); e != api.OK || !slices.Equal(l, late) {
		t.Error("Latest:", l, e)
	}
	if w, e := relay.Way(n, 0, 9, 7); e != api.OK || len(w) != 9 {
		t.Error("Way:", w, e)
	}
	slices.Reverse(n.Links)
	if l, e := relay.Earliest(n, 0, 7); e != api.OK || !slices.Equal(l, want) {
		t.Error("Earliest:", l, e)
	}
	if l, e := relay.Latest(n, 9, 20000); e != api.OK || !slices.Equal(l, late) {
		t.Error("Latest:", l, e)
	}
}

func TestP2_4Way(t *testing.T) {
	w, e := relay.Way(example(), 0, 2, 3)
	if at, f := plainArrival(example(), 0, 2, 3, w); e != api.OK || f != api.OK || at != 22 {
		t.Error("Way:", w, e)
	}
	for s := range 3 {
		if w, e := relay.Way(example(), s, s, api.MaxTick); e != api.OK || len(w) != 0 {
			t.Error("a word that is there already:", s, w, e)
		}
	}
	for _, x := range [][3]int{{2, 0, 3}, {0, 2, 16}, {1, 2, 31}} {
		if w, e := relay.Way(example(), x[0], x[1], x[2]); e != api.ErrNone || len(w) != 0 {
			t.Error("a word that never is there:", x, w, e)
		}
	}
}

func TestP2_4RandomWays(t *testing.T) {
	r := random(5)
	for range 400 {
		n := randomNet(r)
		from, to, tick := r.IntN(n.Stations), r.IntN(n.Stations), r.IntN(horizon/2)
		want := reached(n, from, tick)[to]
		w, e := relay.Way(n, from, to, tick)
		if want < 0 {
			if e != api.ErrNone || len(w) != 0 {
				t.Fatal("Way:", n, from, to, tick, w, e)
			}
			continue
		}
		if at, f := plainArrival(n, from, to, tick, w); e != api.OK || f != api.OK || at != want || from == to && len(w) > 0 {
			t.Fatal("Way:", n, from, to, tick, w, e, at, f, "instead of", want)
		}
	}
}

func TestP2_4CheckWay(t *testing.T) {
	n := example()
	n.Links = append(n.Links, api.Link{From: 1, To: 0, Delay: 1, Open: []api.Span{{Lo: 0, Hi: 300}}})
	for _, x := range []struct {
		name           string
		from, to, tick int
		l              []api.Hop
		at             int
		e              api.Errno
	}{
		{"no hops, the same", 1, 1, 3, nil, 3, api.OK},
		{"no hops, at the last minute", 1, 1, api.MaxTick, []api.Hop{}, api.MaxTick, api.OK},
		{"no hops, not the same", 1, 0, 3, nil, 0, api.ErrProof},
		{"one hop", 0, 2, 3, []api.Hop{{Link: 2, Tick: 10}}, 60, api.OK},
		{"a minute too late for the link", 0, 2, 3, []api.Hop{{Link: 2, Tick: 11}}, 0, api.ErrProof},
		{"just at the minute", 0, 2, 10, []api.Hop{{Link: 2, Tick: 10}}, 60, api.OK},
		{"before the minute", 0, 2, 11, []api.Hop{{Link: 2, Tick: 10}}, 0, api.ErrProof},
		{"two hops", 0, 2, 3, []api.Hop{{Link: 0, Tick: 7}, {Link: 1, Tick: 12}}, 22, api.OK},
		{"with waiting", 0, 2, 3, []api.Hop{{Link: 0, Tick: 3}, {Link: 1, Tick: 30}}, 40, api.OK},
		{"left too early", 0, 2, 3, []api.Hop{{Link: 0, Tick: 2}, {Link: 1, Tick: 12}}, 0, api.ErrProof},
		{"left before the word is there", 0, 2, 3, []api.Hop{{Link: 0, Tick: 8}, {Link: 1, Tick: 12}}, 0, api.ErrProof},
		{"left when the link is closed", 0, 2, 3, []api.Hop{{Link: 0, Tick: 3}, {Link: 1, Tick: 11}}, 0, api.ErrProof},
		{"between two spans", 0, 1, 3, []api.Hop{{Link: 0, Tick: 50}}, 0, api.ErrProof},
		{"in the second span", 0, 1, 3, []api.Hop{{Link: 0, Tick: 195}}, 200, api.OK},
		{"not to its end", 0, 1, 3, []api.Hop{{Link: 0, Tick: 7}, {Link: 1, Tick: 12}}, 0, api.ErrProof},
		{"not from its beginning", 1, 2, 3, []api.Hop{{Link: 0, Tick: 7}, {Link: 1, Tick: 12}}, 0, api.ErrProof},
		{"a hop from elsewhere", 0, 2, 3, []api.Hop{{Link: 2, Tick: 3}, {Link: 1, Tick: 12}}, 0, api.ErrProof},
		{"there and back", 0, 0, 3, []api.Hop{{Link: 0, Tick: 3}, {Link: 3, Tick: 8}}, 9, api.OK},
		{"there, back and there", 0, 1, 3, []api.Hop{{Link: 0, Tick: 3}, {Link: 3, Tick: 8}, {Link: 0, Tick: 9}}, 14, api.OK},
		{"no such link", 0, 2, 3, []api.Hop{{Link: 4, Tick: 7}}, 0, api.ErrProof},
		{"a link below 0", 0, 2, 3, []api.Hop{{Link: -1, Tick: 7}}, 0, api.ErrProof},
		{"a very great minute", 0, 2, 3, []api.Hop{{Link: 2, Tick: math.MaxInt}}, 0, api.ErrProof},
		{"a very small minute", 0, 2, 3, []api.Hop{{Link: 2, Tick: math.MinInt}}, 0, api.ErrProof},
		{"40 wrong hops", 0, 2, 3, make([]api.Hop, 40), 0, api.ErrProof},
		{"41 hops", 0, 2, 3, make([]api.Hop, 41), 0, api.ErrLimit},
	} {
		if at, e := relay.CheckWay(n, x.from, x.to, x.tick, x.l); at != x.at || e != x.e {
			t.Error(x.name, at, e, "instead of", x.at, x.e)
		}
	}
}

func TestP2_4FortyHops(t *testing.T) {
	open := []api.Span{{Lo: 0, Hi: 100}}
	n := api.Net{Stations: 2, Links: []api.Link{{From: 0, To: 1, Delay: 1, Open: open}, {From: 1, To: 0, Delay: 1, Open: open}}}
	var l []api.Hop
	for i := range 40 {
		l = append(l, api.Hop{Link: i % 2, Tick: i})
	}
	if at, e := relay.CheckWay(n, 0, 0, 0, l); at != 40 || e != api.OK {
		t.Error(at, e)
	}
	l = append(l, api.Hop{Link: 0, Tick: 40})
	if at, e := relay.CheckWay(n, 0, 1, 0, l); at != 0 || e != api.ErrLimit {
		t.Error(at, e)
	}
}

func TestP2_4Errors(t *testing.T) {
	for _, x := range wrongPlaces() {
		for _, to := range []int{0, 1, -1} {
			if w, e := relay.Way(example(), x[0], to, x[1]); e != api.ErrArg || len(w) != 0 {
				t.Error("Way:", x, to, w, e)
			}
			if at, e := relay.CheckWay(example(), x[0], to, x[1], make([]api.Hop, 41)); e != api.ErrArg || at != 0 {
				t.Error("CheckWay:", x, to, at, e)
			}
		}
	}
	for _, to := range []int{-1, 3, math.MaxInt, math.MinInt} {
		// From the station 2 a word never is anywhere.
		if w, e := relay.Way(example(), 2, to, 3); e != api.ErrArg || len(w) != 0 {
			t.Error("Way:", to, w, e)
		}
		if at, e := relay.CheckWay(example(), 2, to, 3, make([]api.Hop, 41)); e != api.ErrArg || at != 0 {
			t.Error("CheckWay:", to, at, e)
		}
	}
}

// randomHops returns hops many of which follow each other.
func randomHops(r *rand.Rand, n api.Net, from, tick int) []api.Hop {
	var out []api.Hop
	for range r.IntN(5) {
		var can []int
		for i, l := range n.Links {
			if l.From == from {
				can = append(can, i)
			}
		}
		if len(can) == 0 {
			break
		}
		h := api.Hop{Link: can[r.IntN(len(can))]}
		d, ok := relay.Leave(n.Links[h.Link], tick+r.IntN(4))
		if !ok {
			break
		}
		h.Tick = d
		from, tick = n.Links[h.Link].To, d+n.Links[h.Link].Delay
		out = append(out, h)
	}
	if len(out) > 0 && r.IntN(3) == 0 {
		h := &out[r.IntN(len(out))]
		h.Tick += r.IntN(5) - 2
		h.Link += r.IntN(2) * r.IntN(2)
	}
	return out
}

func TestP2_4RandomHops(t *testing.T) {
	r := random(6)
	right, wrong := 0, 0
	for range 3000 {
		n := randomNet(r)
		from, to, tick := r.IntN(n.Stations), r.IntN(n.Stations), r.IntN(horizon/2)
		l := randomHops(r, n, from, tick)
		if len(l) > 0 && r.IntN(3) > 0 {
			if i := l[len(l)-1].Link; i < len(n.Links) {
				to = n.Links[i].To
			}
		}
		want, e := plainArrival(n, from, to, tick, l)
		if at, f := relay.CheckWay(n, from, to, tick, l); at != want || f != e {
			t.Fatal("CheckWay:", n, from, to, tick, l, at, f, "instead of", want, e)
		}
		if e == api.OK {
			right++
		} else {
			wrong++
		}
	}
	if right < 300 || wrong < 300 {
		t.Error("too few of a kind:", right, wrong)
	}
}

func TestP2_5CheckBounds(t *testing.T) {
	for _, x := range []struct {
		l []int
		e api.Errno
	}{
		{[]int{3, 8, 22}, api.OK}, {[]int{3, 7, 22}, api.OK}, {[]int{0, 5, 20}, api.OK}, {[]int{3, 0, 0}, api.OK}, {[]int{3, 8, 0}, api.OK},
		{[]int{3, 8, 23}, api.ErrProof}, {[]int{3, 9, 22}, api.ErrProof}, {[]int{3, 8, -1}, api.ErrProof}, {[]int{3, -1, 22}, api.ErrProof},
		{[]int{4, 8, 22}, api.ErrProof}, {[]int{-1, 8, 22}, api.ErrProof}, {[]int{2, 8, 22}, api.ErrProof}, {[]int{2, 7, 22}, api.OK},
		{[]int{3, 31, 53}, api.ErrProof}, {[]int{3, 8}, api.ErrProof}, {[]int{3, 8, 22, 0}, api.ErrProof}, {nil, api.ErrProof},
		{[]int{3, 8, -2}, api.ErrProof}, {[]int{3, 8, math.MinInt}, api.ErrProof}, {[]int{3, math.MaxInt, 22}, api.ErrProof},
		{[]int{math.MinInt, 8, 22}, api.ErrProof},
	} {
		if e := relay.CheckBounds(example(), 0, 3, x.l); e != x.e {
			t.Error(x.l, e, "instead of", x.e)
		}
	}
}

func TestP2_5NeverAndTheLastMinute(t *testing.T) {
	alone := api.Net{Stations: 3}
	for _, x := range []struct {
		n    api.Net
		from int
		tick int
		l    []int
		e    api.Errno
	}{
		{alone, 1, 5, []int{-1, 5, -1}, api.OK},
		{alone, 1, 5, []int{api.MaxTick, 5, -1}, api.OK},
		{alone, 1, 5, []int{api.MaxTick + 1, 5, -1}, api.ErrProof},
		{alone, 1, 5, []int{-1, 5, api.MaxTick + 1}, api.ErrProof},
		{alone, 1, 5, []int{-1, 6, -1}, api.ErrProof},
		{alone, 1, 5, []int{-1, 5, -2}, api.ErrProof},
		{alone, 1, 5, []int{-1, 0, -1}, api.OK},
		{alone, 1, 5, []int{-1, -1, -1}, api.ErrProof},
		{example(), 2, 5, []int{-1, -1, 5}, api.OK},
		{example(), 2, 5, []int{-1, 31, 5}, api.OK},
		{example(), 2, 5, []int{-1, 30, 5}, api.OK},
		{example(), 1, 31, []int{-1, 31, -1}, api.OK},
		{example(), 1, 31, []int{-1, 30, -1}, api.ErrProof},
		{example(), 1, 31, []int{196, 31, -1}, api.OK},
		{example(), 1, 31, []int{195, 31, -1}, api.OK},
		{example(), 1, 31, []int{10, 31, -1}, api.ErrProof},
	} {
		if e := relay.CheckBounds(x.n, x.from, x.tick, x.l); e != x.e {
			t.Error(x.n, x.from, x.tick, x.l, e, "instead of", x.e)
		}
	}
}

func TestP2_5Errors(t *testing.T) {
	for _, x := range wrongPlaces() {
		if e := relay.CheckBounds(example(), x[0], x[1], nil); e != api.ErrArg {
			t.Error(x, e)
		}
	}
}

// randomBounds returns numbers that are near the earliest minutes.
func randomBounds(r *rand.Rand, early []int) []int {
	out := slices.Clone(early)
	for range r.IntN(4) {
		i := r.IntN(len(out))
		out[i] += r.IntN(9) - 6
	}
	return out
}

func TestP2_5RandomBounds(t *testing.T) {
	r := random(7)
	right, wrong := 0, 0
	for range 2000 {
		n := randomNet(r)
		from, tick := r.IntN(n.Stations), r.IntN(horizon/2)
		l := randomBounds(r, reached(n, from, tick))
		e := relay.CheckBounds(n, from, tick, l)
		if (e == api.OK) != plainBounds(n, from, tick, l) || e != api.OK && e != api.ErrProof {
			t.Fatal(n, from, tick, l, e)
		}
		if e == api.OK {
			right++
		} else {
			wrong++
		}
	}
	if right < 300 || wrong < 300 {
		t.Error("too few of a kind:", right, wrong)
	}
}

func TestP2_6Needed(t *testing.T) {
	for _, x := range []struct {
		from, to, tick int
		want           []int
	}{{0, 2, 3, []int{0, 1}}, {0, 1, 3, []int{0}}, {1, 2, 3, []int{1}}, {0, 0, 3, nil}, {2, 2, api.MaxTick, nil}} {
		if l, e := relay.Needed(example(), x.from, x.to, x.tick); e != api.OK || !slices.Equal(l, x.want) {
			t.Error(x, l, e)
		}
	}
	twice := example()
	twice.Links = append(twice.Links, twice.Links[0])
	if l, e := relay.Needed(twice, 0, 2, 3); e != api.OK || !slices.Equal(l, []int{1}) {
		t.Error("of two equal links none is needed:", l, e)
	}
	for _, x := range [][3]int{{2, 0, 3}, {0, 2, 16}} {
		if l, e := relay.Needed(example(), x[0], x[1], x[2]); e != api.ErrNone || len(l) != 0 {
			t.Error(x, l, e)
		}
	}
	for _, x := range wrongPlaces() {
		if l, e := relay.Needed(example(), x[0], 1, x[1]); e != api.ErrArg || len(l) != 0 {
			t.Error(x, l, e)
		}
	}
	for _, to := range []int{-1, 3} {
		if l, e := relay.Needed(example(), 2, to, 3); e != api.ErrArg || len(l) != 0 {
			t.Error(to, l, e)
		}
	}
}

func TestP2_6RandomNeeded(t *testing.T) {
	r := random(8)
	for range 200 {
		n := randomNet(r)
		from, to, tick := r.IntN(n.Stations), r.IntN(n.Stations), r.IntN(horizon/2)
		first := reached(n, from, tick)[to]
		if first < 0 {
			continue
		}
		var want []int
		for i := range n.Links {
			if reached(closedLink(n, i), from, tick)[to] != first {
				want = append(want, i)
			}
		}
		if l, e := relay.Needed(n, from, to, tick); e != api.OK || !slices.Equal(l, want) {
			t.Fatal(n, from, to, tick, l, e, "instead of", want)
		}
	}
}

func TestP2_6Closed(t *testing.T) {
	const least, greatest = math.MinInt, math.MaxInt
	whole := example().Links[0].Open
	for _, x := range []struct {
		s    api.Span
		want []api.Span
	}{
		{api.Span{Lo: 10, Hi: 110}, []api.Span{{Lo: 0, Hi: 9}, {Lo: 111, Hi: 200}}},
		{api.Span{Lo: 15, Hi: 15}, []api.Span{{Lo: 0, Hi: 14}, {Lo: 16, Hi: 20}, {Lo: 100, Hi: 200}}},
		{api.Span{Lo: 0, Hi: 0}, []api.Span{{Lo: 1, Hi: 20}, {Lo: 100, Hi: 200}}},
		{api.Span{Lo: 20, Hi: 20}, []api.Span{{Lo: 0, Hi: 19}, {Lo: 100, Hi: 200}}},
		{api.Span{Lo: 0, Hi: 19}, []api.Span{{Lo: 20, Hi: 20}, {Lo: 100, Hi: 200}}},
		{api.Span{Lo: 1, Hi: 199}, []api.Span{{Lo: 0, Hi: 0}, {Lo: 200, Hi: 200}}},
		{api.Span{Lo: 0, Hi: 20}, []api.Span{{Lo: 100, Hi: 200}}},
		{api.Span{Lo: 100, Hi: 200}, []api.Span{{Lo: 0, Hi: 20}}},
		{api.Span{Lo: 0, Hi: 200}, nil}, {api.Span{Lo: least, Hi: greatest}, nil},
		{api.Span{Lo: 21, Hi: 99}, whole}, {api.Span{Lo: 201, Hi: 300}, whole}, {api.Span{Lo: -9, Hi: -1}, whole},
		{api.Span{Lo: least, Hi: least}, whole}, {api.Span{Lo: greatest, Hi: greatest}, whole},
		{api.Span{Lo: least, Hi: 110}, []api.Span{{Lo: 111, Hi: 200}}},
		{api.Span{Lo: 10, Hi: greatest}, []api.Span{{Lo: 0, Hi: 9}}},
	} {
		n, e := relay.Closed(example(), x.s)
		if e != api.OK || n.Stations != 3 || len(n.Links) != 3 || !slices.Equal(n.Links[0].Open, x.want) {
			t.Error(x.s, n, e, "instead of", x.want)
		}
	}
	for _, s := range []api.Span{{Lo: 5, Hi: 4}, {Lo: greatest, Hi: least}, {Lo: 0, Hi: -1}} {
		if n, e := relay.Closed(example(), s); e != api.ErrArg || n.Stations != 0 || len(n.Links) != 0 {
			t.Error(s, n, e)
		}
	}
}

func TestP2_6ClosedIntoTooManySpans(t *testing.T) {
	n := example()
	n.Links[2].Open = manySpans(12)
	if c, e := relay.Closed(n, api.Span{Lo: 54, Hi: 54}); e != api.ErrLimit || c.Stations != 0 || len(c.Links) != 0 {
		t.Error(c, e)
	}
	if c, e := relay.Closed(n, api.Span{Lo: 55, Hi: 54}); e != api.ErrArg || c.Stations != 0 || len(c.Links) != 0 {
		t.Error(c, e)
	}
	if c, e := relay.Closed(n, api.Span{Lo: 54, Hi: 64}); e != api.OK || len(c.Links[2].Open) != 12 {
		t.Error(c, e)
	}
	n.Links[2].Open = manySpans(11)
	if c, e := relay.Closed(n, api.Span{Lo: 54, Hi: 54}); e != api.OK || len(c.Links[2].Open) != 12 {
		t.Error(c, e)
	}
}

// minutes returns the minutes of spans, each with the index of its span among those of a link.
func minutes(open []api.Span, of []api.Span) map[int]int {
	out := map[int]int{}
	for _, s := range open {
		for m := s.Lo; m <= s.Hi; m++ {
			out[m] = slices.IndexFunc(of, func(x api.Span) bool { return x.Lo <= m && m <= x.Hi })
		}
	}
	return out
}

func TestP2_6RandomClosed(t *testing.T) {
	r := random(9)
	for range 500 {
		n := randomNet(r)
		lo := r.IntN(horizon) - 3
		s := api.Span{Lo: lo, Hi: lo + r.IntN(20)}
		c, e := relay.Closed(n, s)
		if e == api.ErrLimit {
			continue
		}
		if e != api.OK || relay.Check(c) != api.OK || c.Stations != n.Stations || len(c.Links) != len(n.Links) {
			t.Fatal(n, s, c, e)
		}
		for i, l := range n.Links {
			k := c.Links[i]
			if k.From != l.From || k.To != l.To || k.Delay != l.Delay {
				t.Fatal("another link:", n, s, i, k)
			}
			was, is := minutes(l.Open, l.Open), minutes(k.Open, k.Open)
			for m := range horizon {
				j, before := was[m]
				h, still := is[m]
				if still != (before && (m < s.Lo || m > s.Hi)) {
					t.Fatal("open at another minute:", n, s, i, m)
				}
				// Minutes side by side are in one part exactly if they were in one span.
				if g, next := is[m+1]; still && next && (g == h) != (was[m+1] == j) {
					t.Fatal("other parts:", n, s, i, k)
				}
			}
		}
	}
}
