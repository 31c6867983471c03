package relay_test

import (
	"math"
	"slices"
	"testing"

	"firetower/api"
	"firetower/relay"
)

// manySpans returns some spans, a minute apart from each other.
func manySpans(n int) []api.Span {
	out := make([]api.Span, n)
	for i := range out {
		out[i] = api.Span{Lo: 10 * i, Hi: 10*i + 8}
	}
	return out
}

// wrongNets are changes of the example, and what Check says of what becomes of it.
func wrongNets() []struct {
	name string
	do   func(n *api.Net)
	e    api.Errno
} {
	return []struct {
		name string
		do   func(n *api.Net)
		e    api.Errno
	}{
		{"as it is", func(n *api.Net) {}, api.OK},
		{"no link", func(n *api.Net) { n.Links = nil }, api.OK},
		{"one station", func(n *api.Net) { n.Stations, n.Links = 1, nil }, api.OK},
		{"no station", func(n *api.Net) { n.Stations, n.Links = 0, nil }, api.ErrArg},
		{"stations below 0", func(n *api.Net) { n.Stations = -1 }, api.ErrArg},
		{"10 stations", func(n *api.Net) { n.Stations = 10 }, api.OK},
		{"11 stations", func(n *api.Net) { n.Stations = 11 }, api.ErrArg},
		{"11 stations, too many links", func(n *api.Net) { n.Stations, n.Links = 11, make([]api.Link, 41) }, api.ErrArg},
		{"40 links", func(n *api.Net) { n.Links = slices.Repeat(n.Links[:1], 40) }, api.OK},
		{"41 links", func(n *api.Net) { n.Links = slices.Repeat(n.Links[:1], 41) }, api.ErrLimit},
		{"41 wrong links", func(n *api.Net) { n.Links = make([]api.Link, 41) }, api.ErrLimit},
		{"40 wrong links", func(n *api.Net) { n.Links = make([]api.Link, 40) }, api.ErrArg},
		{"From below 0", func(n *api.Net) { n.Links[1].From = -1 }, api.ErrArg},
		{"From the last station", func(n *api.Net) { n.Links[0].From = 2 }, api.OK},
		{"From too great", func(n *api.Net) { n.Links[1].From = 3 }, api.ErrArg},
		{"To below 0", func(n *api.Net) { n.Links[1].To = -1 }, api.ErrArg},
		{"To too great", func(n *api.Net) { n.Links[1].To = 3 }, api.ErrArg},
		{"to itself", func(n *api.Net) { n.Links[2].To = 0 }, api.ErrArg},
		{"no delay", func(n *api.Net) { n.Links[1].Delay = 0 }, api.ErrArg},
		{"the least delay", func(n *api.Net) { n.Links[1].Delay = 1 }, api.OK},
		{"the greatest delay", func(n *api.Net) { n.Links[1].Delay = 1440 }, api.OK},
		{"a greater delay", func(n *api.Net) { n.Links[1].Delay = 1441 }, api.ErrArg},
		{"no span", func(n *api.Net) { n.Links[1].Open = nil }, api.OK},
		{"12 spans", func(n *api.Net) { n.Links[1].Open = manySpans(12) }, api.OK},
		{"13 spans", func(n *api.Net) { n.Links[1].Open = manySpans(13) }, api.ErrLimit},
		{"13 wrong spans", func(n *api.Net) { n.Links[1].Open = make([]api.Span, 13) }, api.ErrLimit},
		{"12 wrong spans", func(n *api.Net) { n.Links[1].Open = make([]api.Span, 12) }, api.ErrArg},
		{"a minute before the first", func(n *api.Net) { n.Links[0].Open[0].Lo = -1 }, api.ErrArg},
		{"the last minute", func(n *api.Net) { n.Links[0].Open[1].Hi = api.MaxTick }, api.OK},
		{"a minute behind the last", func(n *api.Net) { n.Links[0].Open[1].Hi = api.MaxTick + 1 }, api.ErrArg},
		{"a span of one minute", func(n *api.Net) { n.Links[0].Open[1].Hi = 100 }, api.OK},
		{"no span at the beginning", func(n *api.Net) { n.Links[0].Open[0] = api.Span{Lo: 1, Hi: 0} }, api.ErrArg},
		{"no span behind one", func(n *api.Net) { n.Links[0].Open[1].Hi = 99 }, api.ErrArg},
		{"neighbours", func(n *api.Net) { n.Links[0].Open[1].Lo = 21 }, api.OK},
		{"a minute in two spans", func(n *api.Net) { n.Links[0].Open[1].Lo = 20 }, api.ErrArg},
		{"spans not in order", func(n *api.Net) { slices.Reverse(n.Links[0].Open) }, api.ErrArg},
		{"a wrong delay and too many spans", func(n *api.Net) { n.Links[0].Delay, n.Links[0].Open = 0, manySpans(13) }, api.ErrArg},
		{"too many spans, then a wrong delay", func(n *api.Net) { n.Links[0].Open, n.Links[1].Delay = manySpans(13), 0 }, api.ErrLimit},
		{"a wrong span, then too many", func(n *api.Net) { n.Links[0].Open[0].Lo, n.Links[1].Open = -1, manySpans(13) }, api.ErrArg},
		{"too many spans of the last link", func(n *api.Net) { n.Links[2].Open = manySpans(13) }, api.ErrLimit},
		{"very great and small minutes", func(n *api.Net) { n.Links[0].Open[0] = api.Span{Lo: math.MinInt, Hi: math.MaxInt} }, api.ErrArg},
		{"a very small station", func(n *api.Net) { n.Links[2].From = math.MinInt }, api.ErrArg},
		{"a very small delay", func(n *api.Net) { n.Links[2].Delay = math.MinInt }, api.ErrArg},
	}
}

func TestP2_1Check(t *testing.T) {
	for _, x := range wrongNets() {
		n := example()
		x.do(&n)
		if e := relay.Check(n); e != x.e {
			t.Error(x.name, e, "instead of", x.e)
		}
	}
}

func TestP2_1ErrorsOfNetsComeFirst(t *testing.T) {
	for _, x := range wrongNets() {
		if x.e == api.OK {
			continue
		}
		n := example()
		x.do(&n)
		// The other arguments are wrong, too.
		early, e1 := relay.Earliest(n, -1, -1)
		late, e2 := relay.Latest(n, -1, -1)
		way, e3 := relay.Way(n, -1, -1, -1)
		at, e4 := relay.CheckWay(n, -1, -1, -1, make([]api.Hop, 41))
		e5 := relay.CheckBounds(n, -1, -1, nil)
		needed, e6 := relay.Needed(n, -1, -1, -1)
		closed, e7 := relay.Closed(n, api.Span{Lo: 1})
		for i, e := range []api.Errno{e1, e2, e3, e4, e5, e6, e7} {
			if e != x.e {
				t.Error(x.name, i, e, "instead of", x.e)
			}
		}
		if len(early)+len(late)+len(way)+len(needed)+len(closed.Links) != 0 || at != 0 || closed.Stations != 0 {
			t.Error(x.name, "a result with an error")
		}
	}
}

func TestP2_2LeaveAndLast(t *testing.T) {
	l := example().Links[0]
	for _, x := range []struct {
		tick, leave int
		can         bool
		last        int
		in          bool
	}{
		{math.MinInt, 0, true, 0, false}, {-7, 0, true, 0, false}, {0, 0, true, 0, false}, {3, 3, true, 0, false}, {4, 4, true, 0, false},
		{5, 5, true, 0, true}, {15, 15, true, 10, true}, {16, 100, true, 11, true}, {20, 100, true, 15, true}, {21, 100, true, 15, true},
		{30, 100, true, 15, true}, {100, 100, true, 15, true}, {104, 104, true, 15, true}, {105, 105, true, 100, true}, {195, 195, true, 190, true},
		{196, 0, false, 191, true}, {200, 0, false, 195, true}, {201, 0, false, 195, true}, {math.MaxInt, 0, false, 195, true},
	} {
		d, can := relay.Leave(l, x.tick)
		if d != x.leave || can != x.can {
			t.Error("Leave:", x.tick, d, can)
		}
		m, in := relay.Last(l, x.tick)
		if m != x.last || in != x.in {
			t.Error("Last:", x.tick, m, in)
		}
	}
}

func TestP2_2ShortSpansAndTheLastMinute(t *testing.T) {
	l := api.Link{Delay: 1440, Open: []api.Span{{Lo: 0, Hi: 1439}, {Lo: 1440, Hi: 2879}, {Lo: api.MaxTick - 1440, Hi: api.MaxTick}}}
	if d, ok := relay.Leave(l, 0); d != api.MaxTick-1440 || !ok {
		t.Error("a word is not on its way over the end of a span:", d, ok)
	}
	if d, ok := relay.Last(l, api.MaxTick); d != api.MaxTick-1440 || !ok {
		t.Error("Last:", d, ok)
	}
	if d, ok := relay.Last(l, api.MaxTick-1); d != 0 || ok {
		t.Error("Last:", d, ok)
	}
	if d, ok := relay.Leave(api.Link{Delay: 1}, 0); d != 0 || ok {
		t.Error("a link that is never open:", d, ok)
	}
}

func TestP2_2OnlyRightLinks(t *testing.T) {
	for _, x := range wrongNets() {
		n := example()
		x.do(&n)
		for i, l := range n.Links {
			// A net in which the link stands alone tells whether it is right; its stations do not matter.
			alone := l
			alone.From, alone.To = 0, 1
			right := relay.Check(api.Net{Stations: 2, Links: []api.Link{alone}}) == api.OK
			first, last := 0, 0
			if right && len(l.Open) > 0 {
				first, last = l.Open[0].Lo, l.Open[len(l.Open)-1].Hi
			}
			d, can := relay.Leave(l, first)
			m, in := relay.Last(l, last)
			if can && !right || in && !right || can != in || !can && (d != 0 || m != 0) {
				t.Error(x.name, i, right, d, can, m, in)
			}
			if e, f := relay.Leave(alone, first); e != d || f != can {
				t.Error(x.name, i, "the stations of a link matter")
			}
		}
	}
}

func TestP2_2RandomLinks(t *testing.T) {
	r := random(1)
	for range 300 {
		l := randomLink(r, 5)
		for tick := -2; tick < horizon+3; tick++ {
			leave, can, last, in := 0, false, 0, false
			for d := range horizon {
				if canLeave(l, d) && d >= tick && !can {
					leave, can = d, true
				}
				if canLeave(l, d) && d+l.Delay <= tick {
					last, in = d, true
				}
			}
			if d, ok := relay.Leave(l, tick); d != leave || ok != can {
				t.Fatal("Leave:", l, tick, d, ok, "instead of", leave, can)
			}
			if d, ok := relay.Last(l, tick); d != last || ok != in {
				t.Fatal("Last:", l, tick, d, ok, "instead of", last, in)
			}
		}
	}
}
