package relay_test

import (
	"slices"
	"testing"

	"firetower/api"
	"firetower/relay"
)

// mustEarliest returns the earliest minutes of a right net.
func mustEarliest(t *testing.T, n api.Net, from, tick int) []int {
	t.Helper()
	l, e := relay.Earliest(n, from, tick)
	if e != api.OK || len(l) != n.Stations {
		t.Fatal("Earliest:", n, from, tick, l, e)
	}
	return l
}

func TestP2_10WaysAndBounds(t *testing.T) {
	r := random(10)
	for range 500 {
		n := randomNet(r)
		from, tick := r.IntN(n.Stations), r.IntN(horizon/2)
		early := mustEarliest(t, n, from, tick)
		if e := relay.CheckBounds(n, from, tick, early); e != api.OK {
			t.Fatal("the earliest minutes are no bounds:", n, from, tick, early, e)
		}
		for to := range n.Stations {
			w, e := relay.Way(n, from, to, tick)
			if (e == api.ErrNone) != (early[to] < 0) {
				t.Fatal("Way:", n, from, to, tick, w, e)
			}
			if e != api.OK {
				continue
			}
			if at, e := relay.CheckWay(n, from, to, tick, w); e != api.OK || at != early[to] {
				t.Fatal("CheckWay:", n, from, to, tick, w, at, e, "instead of", early[to])
			}
		}
	}
}

func TestP2_10NothingIsEarlierThanItsBound(t *testing.T) {
	r := random(11)
	accepted := 0
	for range 1500 {
		n := randomNet(r)
		from, tick := r.IntN(n.Stations), r.IntN(horizon/2)
		l := randomBounds(r, reached(n, from, tick))
		if relay.CheckBounds(n, from, tick, l) != api.OK {
			continue
		}
		for range 20 {
			h, to := randomHops(r, n, from, tick), from
			if len(h) > 0 {
				to = n.Links[min(h[len(h)-1].Link, len(n.Links)-1)].To
			}
			at, e := relay.CheckWay(n, from, to, tick, h)
			if e != api.OK {
				continue
			}
			accepted++
			if !inTime(l[to], at) {
				t.Fatal("earlier than its bound:", n, from, to, tick, l, h, at)
			}
		}
	}
	if accepted < 1000 {
		t.Error("too few ways:", accepted)
	}
}

func TestP2_11LaterIsNowhereEarlier(t *testing.T) {
	r := random(12)
	for range 200 {
		n := randomNet(r)
		from := r.IntN(n.Stations)
		before := mustEarliest(t, n, from, 0)
		for tick := 1; tick < horizon; tick++ {
			now := mustEarliest(t, n, from, tick)
			for s := range now {
				if !notEarlier(now[s], before[s]) {
					t.Fatal(n, from, tick, now, before)
				}
			}
			before = now
		}
	}
}

func TestP2_11EarliestAndLatest(t *testing.T) {
	r := random(13)
	for range 300 {
		n := randomNet(r)
		from, to := r.IntN(n.Stations), r.IntN(n.Stations)
		for range 20 {
			tick, end := r.IntN(horizon), r.IntN(horizon)
			early := mustEarliest(t, n, from, tick)
			late, e := relay.Latest(n, to, end)
			if e != api.OK || len(late) != n.Stations {
				t.Fatal("Latest:", n, to, end, late, e)
			}
			if inTime(early[to], end) != (late[from] >= tick) {
				t.Fatal(n, from, to, tick, end, early, late)
			}
		}
	}
}

func TestP2_12FewerLinks(t *testing.T) {
	r := random(14)
	for range 200 {
		n := randomNet(r)
		from, tick := r.IntN(n.Stations), r.IntN(horizon/2)
		early := mustEarliest(t, n, from, tick)
		for i := range n.Links {
			fewer := mustEarliest(t, closedLink(n, i), from, tick)
			gone := copyOf(n)
			gone.Links = slices.Delete(gone.Links, i, i+1)
			if !slices.Equal(fewer, mustEarliest(t, gone, from, tick)) {
				t.Fatal("a link that is never open matters:", n, i, from, tick)
			}
			for to := range n.Stations {
				if !notEarlier(fewer[to], early[to]) {
					t.Fatal("earlier without a link:", n, i, from, to, tick)
				}
				needed, e := relay.Needed(n, from, to, tick)
				if e == api.OK && slices.Contains(needed, i) == (fewer[to] == early[to]) {
					t.Fatal("Needed:", n, i, from, to, tick, needed)
				}
			}
		}
	}
}

func TestP2_12FewerSpans(t *testing.T) {
	r := random(15)
	for range 500 {
		n := randomNet(r)
		from, tick, lo := r.IntN(n.Stations), r.IntN(horizon/2), r.IntN(horizon)
		c, e := relay.Closed(n, api.Span{Lo: lo, Hi: lo + r.IntN(20)})
		if e != api.OK {
			continue
		}
		early, fewer := mustEarliest(t, n, from, tick), mustEarliest(t, c, from, tick)
		for s := range early {
			if !notEarlier(fewer[s], early[s]) {
				t.Fatal(n, c, from, tick, early, fewer)
			}
		}
	}
}
