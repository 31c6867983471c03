package relay_test

import (
	"slices"
	"testing"

	"firetower/api"
	"firetower/relay"
)

// spare returns a list with more behind its end, and a function that says whether what lies there is still as it was.
func spare[T comparable](l []T, behind T) ([]T, func() bool) {
	long := append(slices.Clone(l), behind, behind, behind)
	kept := slices.Clone(long)
	return long[:len(l)], func() bool { return slices.Equal(long, kept) }
}

func TestArgumentsOfNetsAreNotChanged(t *testing.T) {
	n := example()
	var asBefore []func() bool
	for i := range n.Links {
		l, same := spare(n.Links[i].Open, api.Span{Lo: 900, Hi: 901})
		n.Links[i].Open = l
		asBefore = append(asBefore, same)
	}
	links := append(n.Links, api.Link{From: 7})
	n.Links = links[:3]
	hops, sameHops := spare([]api.Hop{{Link: 0, Tick: 3}, {Link: 1, Tick: 12}}, api.Hop{Link: 9, Tick: 9})
	bounds, sameBounds := spare([]int{3, 8, 22}, 77)
	asBefore = append(asBefore, sameHops, sameBounds)
	relay.Check(n)
	relay.Leave(n.Links[0], 3)
	relay.Last(n.Links[0], 30)
	relay.Earliest(n, 0, 3)
	relay.Latest(n, 2, 40)
	relay.Way(n, 0, 2, 3)
	relay.CheckWay(n, 0, 2, 3, hops)
	relay.CheckBounds(n, 0, 3, bounds)
	relay.Needed(n, 0, 2, 3)
	relay.Closed(n, api.Span{Lo: 15, Hi: 15})
	relay.Closed(n, api.Span{Lo: 0, Hi: 1000})
	for i, same := range asBefore {
		if !same() {
			t.Error("changed:", i)
		}
	}
	if links[3].From != 7 || links[3].Open != nil {
		t.Error("changed behind the links:", links[3])
	}
	want := example()
	for i, l := range n.Links {
		k := want.Links[i]
		if l.From != k.From || l.To != k.To || l.Delay != k.Delay || !slices.Equal(l.Open, k.Open) {
			t.Error("another link:", i, l)
		}
	}
}

func TestClosedIsNewMemory(t *testing.T) {
	n := example()
	for _, s := range []api.Span{{Lo: 15, Hi: 15}, {Lo: 500, Hi: 600}} {
		c, e := relay.Closed(n, s)
		if e != api.OK || len(c.Links) != 3 {
			t.Fatal(c, e)
		}
		before := copyOf(c)
		for i := range c.Links {
			// Neither its elements nor what lies behind its end is of another list.
			k := append(c.Links[i].Open, api.Span{Lo: -5, Hi: -5})
			k[0].Lo = -9
			k[len(k)-1].Hi = -9
			for j := range c.Links {
				if j > i && !slices.Equal(c.Links[j].Open, before.Links[j].Open) {
					t.Error("links share spans:", s, i, j)
				}
			}
		}
		c.Links[0].Delay = 1000
		if !slices.Equal(n.Links[0].Open, example().Links[0].Open) || !slices.Equal(n.Links[1].Open, example().Links[1].Open) || n.Links[0].Delay != 5 {
			t.Error("a net shares with the one that it was made of:", s, n)
		}
	}
}

// A call between two equal ones, whose results are overwritten, changes nothing.
func TestResultsOfNetsAreNewMemory(t *testing.T) {
	n := example()
	for _, f := range []func() []int{
		func() []int { l, _ := relay.Earliest(n, 0, 3); return l },
		func() []int { l, _ := relay.Latest(n, 2, 40); return l },
		func() []int { l, _ := relay.Needed(n, 0, 2, 3); return l },
		func() []int {
			w, _ := relay.Way(n, 0, 2, 3)
			var l []int
			for i := range w {
				l = append(l, w[i].Link, w[i].Tick)
				w[i] = api.Hop{Link: -1, Tick: -1}
			}
			return l
		},
	} {
		l := f()
		kept := slices.Clone(l)
		for i := range l {
			l[i] = -7
		}
		if !slices.Equal(f(), kept) {
			t.Error(f(), "instead of", kept)
		}
	}
}

func TestResultsOfWorldsAreNewMemory(t *testing.T) {
	b := newBoth(t, 2, 10)
	for range 5 {
		b.must(api.OK, say(0, 1, "x"))
	}
	b.must(api.OK, deliver(1))
	b.must(api.OK, deliver(2))
	mails, said, heard := b.w.Mails(), b.w.Said(0, 1), b.w.Heard(1, 0)
	kept := slices.Clone(mails)
	for range 3 { // the world's lists go on behind those that it gave out
		b.must(api.OK, say(0, 1, "y"))
		b.must(api.OK, deliver(b.p.mails[0].ID))
	}
	if !slices.Equal(mails, kept) || !slices.Equal(said, slices.Repeat([]string{"x"}, 5)) || !slices.Equal(heard, slices.Repeat([]string{"x"}, 2)) {
		t.Error("a step changes results:", mails, said, heard)
	}
	mails, said, heard = b.w.Mails(), b.w.Said(0, 1), b.w.Heard(1, 0)
	clear(mails)
	clear(said)
	clear(heard)
	same(t, b.w, b.p, "results are overwritten")
	// Heard is the beginning of what was said: what lies behind its end must not be that.
	_ = append(b.w.Mails(), api.Mail{ID: -1})
	_ = append(b.w.Said(0, 1), "z")
	_ = append(b.w.Heard(1, 0), "z")
	same(t, b.w, b.p, "something is added to results")
	b.must(api.OK, say(0, 1, "w"))
	b.must(api.OK, tick(100))
}

func TestEqualCallsGiveEqualResults(t *testing.T) {
	r := random(30)
	for range 100 {
		n := randomNet(r)
		from, to := r.IntN(n.Stations), r.IntN(n.Stations)
		first, e := relay.Way(n, from, to, 0)
		for range 5 {
			if again, f := relay.Way(n, from, to, 0); f != e || !slices.Equal(again, first) {
				t.Fatal(n, from, to, again, first)
			}
		}
	}
}
