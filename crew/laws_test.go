package crew_test

import (
	"cmp"
	"slices"
	"testing"

	"firetower/api"
	"firetower/crew"
)

func TestP9_12Arrivals(t *testing.T) {
	r := random(16)
	ways, never := 0, 0
	for range 1500 {
		l := randomTrails(r)
		from, tick := oneOf(r, append(grid(), at(6, 6))), r.IntN(70)
		a := surest(t, l, from, tick)
		mustBe(t, crew.CheckArrivals(l, from, tick, a), api.OK, "CheckArrivals", l, from, tick, a)
		quick, e := crew.Soonest(l, from, tick)
		mustBe(t, e, api.OK, "Soonest")
		for i, x := range a {
			if quick[i].At != x.At || quick[i].Tick > x.Tick || (quick[i].Tick < 0) != (x.Tick < 0) {
				t.Fatal("surely there before one can be there:", l, from, tick, x, quick[i])
			}
			w, e := crew.Way(l, from, x.At, tick)
			if x.Tick < 0 {
				mustBe(t, e, api.ErrNone, "Way", l, from, x)
				never++
				continue
			}
			ways++
			if n, f := crew.CheckWay(l, from, x.At, tick, w); e != api.OK || f != api.OK || n != x.Tick {
				t.Fatal(l, from, x, tick, w, e, n, f)
			}
		}
	}
	counted(t, "ways", ways, 2000)
	counted(t, "places without a way", never, 500)
}

// Minutes that CheckArrivals accepts are proved: no way that CheckWay accepts is earlier.
func TestP9_12NoWayIsEarlier(t *testing.T) {
	r := random(17)
	accepted, ways := 0, 0
	for range 4000 {
		l := randomTrails(r)
		from, tick := oneOf(r, grid()), r.IntN(70)
		a := randomArrivals(r, surest(t, l, from, tick))
		if crew.CheckArrivals(l, from, tick, a) != api.OK {
			continue
		}
		accepted++
		for _, x := range a {
			w, _ := crew.Way(l, from, x.At, tick)
			for _, w := range [][]api.Stage{w, randomWay(r, l, w)} {
				n, e := crew.CheckWay(l, from, x.At, tick, w)
				if e != api.OK {
					continue
				}
				ways++
				if x.Tick < 0 || n < x.Tick {
					t.Fatal("earlier than is proved:", l, from, tick, a, x, w, n)
				}
			}
		}
	}
	counted(t, "proofs", accepted, 800)
	counted(t, "ways", ways, 3000)
}

// laterEverywhere reports whether nobody is surely earlier by some minutes than by others; what is at no place of the first ones is never there.
func laterEverywhere(a, b []api.Arrival) bool {
	return !slices.ContainsFunc(b, func(x api.Arrival) bool { return !notEarlier(minuteOf(a, x.At), x.Tick) })
}

func TestP9_13Later(t *testing.T) {
	r := random(18)
	same := 0
	for range 1500 {
		l := randomTrails(r)
		from, tick := oneOf(r, grid()), r.IntN(70)
		a, b := surest(t, l, from, tick), surest(t, l, from, tick+1+r.IntN(20))
		if !laterEverywhere(b, a) {
			t.Fatal("who starts later is earlier:", l, from, tick, a, b)
		}
		for i := range a {
			if a[i].Tick >= 0 && a[i].Tick == b[i].Tick {
				same++
			}
		}
	}
	counted(t, "places where who starts later is as early", same, 50)
}

func TestP9_13Fewer(t *testing.T) {
	r := random(19)
	for range 1500 {
		l := append(randomTrails(r), randomTrail(r, 30))
		from, tick, i := oneOf(r, grid()), r.IntN(70), r.IntN(len(l))
		a := surest(t, l, from, tick)
		slower := copyOf(l)
		slower[i].Slow += r.IntN(9)
		longer, e := crew.Close(l, l[i].ID, span(r.IntN(30), 30+r.IntN(60)))
		if e != api.OK {
			longer = l
		}
		for _, other := range [][]api.Trail{less(l, i), slower, longer} {
			if b := surest(t, other, from, tick); !laterEverywhere(b, a) {
				t.Fatal("earlier by worse trails:", l, other, from, tick, a, b)
			}
		}
	}
}

func TestP9_13NotNeeded(t *testing.T) {
	r := random(20)
	needed, others := 0, 0
	for range 800 {
		l := randomTrails(r)
		from, to, tick := oneOf(r, grid()), oneOf(r, grid()), r.IntN(70)
		ids, e := crew.Needed(l, from, to, tick)
		if e != api.OK {
			continue
		}
		best := minuteOf(surest(t, l, from, tick), to)
		if from == to {
			best = tick
		}
		for i, k := range l {
			n := minuteOf(surest(t, less(l, i), from, tick), to)
			if is := slices.Contains(ids, k.ID); is == (n == best) || is && n >= 0 && n < best {
				t.Fatal(l, from, to, tick, k, n, "instead of", best)
			} else if is {
				needed++
			} else {
				others++
			}
		}
	}
	counted(t, "trails that are needed", needed, 200)
	counted(t, "trails that are not", others, 500)
}

// atLeast reports whether sends are as good as others: they have more pairs, or as many with a sum that is not greater.
func atLeast(times [][]int, a, b []api.Send) bool {
	return cmp.Or(cmp.Compare(len(a), len(b)), cmp.Compare(plainSum(times, b), plainSum(times, a))) >= 0
}

func TestP9_14Plans(t *testing.T) {
	r := random(21)
	accepted, others := 0, 0
	for range 4000 {
		times := randomTable(r, r.IntN(5), r.IntN(5))
		best, e := crew.Best(times)
		mustBe(t, e, api.OK, "Best")
		mustBe(t, crew.CheckPlan(times, best), api.OK, "CheckPlan", times, best)
		forced, e := crew.Forced(times)
		mustBe(t, e, api.OK, "Forced")
		for _, s := range forced {
			if !slices.Contains(best.Sends, s) {
				t.Fatal("forced, but not among the best:", times, s, best)
			}
		}
		p := randomPlan(r, times, best)
		if crew.CheckPlan(times, p) != api.OK {
			continue
		}
		accepted++
		if !slices.Equal(p.Sends, best.Sends) {
			others++
		}
		for _, l := range allSends(times, 0, map[int]bool{}) {
			if !atLeast(times, p.Sends, l) {
				t.Fatal("accepted, but not the best:", times, p, l)
			}
		}
	}
	counted(t, "plans that were accepted", accepted, 400)
	counted(t, "plans with other sends than Best", others, 10)
}

// neverTwo fails a test unless each order that stands has a smoke and a crew of its own, a smoke that is proved, and a crew that is not free.
func neverTwo(t *testing.T, b both) {
	t.Helper()
	smokes, crews := map[int]bool{}, map[int]bool{}
	for _, x := range b.o.Orders() {
		if !stands(x) {
			continue
		}
		i := b.p.at(x.Blaze)
		if smokes[x.Blaze] || crews[x.Crew] || i < 0 || !b.p.smokes[i].Proved {
			t.Fatal("two orders, or a smoke that is not proved:", b.o.Orders())
		}
		if slices.ContainsFunc(b.o.Crews(), func(c api.Crew) bool { return c.ID == x.Crew }) {
			t.Fatal("free and sent:", x, b.o.Crews())
		}
		if who, is := b.o.Sent(x.Blaze); who != x.Crew || !is {
			t.Fatal(x, who, is)
		}
		smokes[x.Blaze], crews[x.Crew] = true, true
	}
}

func TestP9_15NeverTwoNeverNone(t *testing.T) {
	r := random(22)
	served := 0
	for range 40 {
		b := newBoth(t, randomTrails(r), randomCrews(r, 6))
		for range 100 {
			d := randomDeed(r, b.p)
			free := len(b.o.Crews())
			e := b.o.Do(d)
			if want := b.p.do(d); e != want {
				t.Fatal(d, e, "instead of", want)
			}
			neverTwo(t, b)
			if d.Kind != api.DeSend || e != api.OK || free == 0 || len(b.o.Crews()) == 0 {
				continue
			}
			served++
			for _, s := range b.p.smokes {
				if _, is := b.o.Sent(s.ID); s.Proved && !is {
					t.Fatal("nobody is sent, but a crew is free:", s, b.o.Crews())
				}
			}
		}
	}
	counted(t, "deeds behind which a crew is free", served, 50)
}

func TestP9_16Deeds(t *testing.T) {
	r := random(23)
	for range 40 {
		o, e := crew.New(randomTrails(r), someCrews(4))
		mustBe(t, e, api.OK, "New")
		p := newPlain(nil, someCrews(4))
		var kinds []int
		for range 100 {
			d := randomDeed(r, p)
			if o.Do(d) == api.OK {
				kinds = append(kinds, d.Kind)
			}
		}
		for _, x := range o.Orders() {
			last := x.Deeds[len(x.Deeds)-1]
			if len(x.Deeds) > 3 || !slices.IsSorted(x.Deeds) || x.Deeds[0] < 1 || last > len(kinds) || kinds[last-1] != api.DeSend {
				t.Fatal(x, kinds)
			}
			for n := range len(kinds) {
				l, e := o.Follows(n + 1)
				if e != api.OK || slices.Contains(l, x.ID) != slices.Contains(x.Deeds, n+1) {
					t.Fatal(x, n+1, l, e)
				}
			}
		}
	}
}

// A smoke that is never proved and never withdrawn, and told only once, matters nothing.
func TestP9_16LeftOut(t *testing.T) {
	r := random(24)
	left := 0
	for range 100 {
		l, crews := randomTrails(r), randomCrews(r, 6)
		with, _ := crew.New(l, crews)
		without, _ := crew.New(l, crews)
		names := newPlain(l, crews)
		at, number, deeds := r.IntN(60), 0, 0
		for i := range 100 {
			if i == at && with.Do(tell(unproved(randomBlaze(r, 20)))) == api.OK {
				deeds++
				number = deeds
			}
			d := randomDeed(r, names)
			if with.Do(d) == api.OK {
				deeds++
				mustBe(t, without.Do(d), api.OK, "without the smoke", d)
			}
		}
		if number == 0 {
			continue
		}
		orders := with.Orders()
		for _, x := range orders {
			for i, n := range x.Deeds {
				if n > number {
					x.Deeds[i]--
				}
			}
		}
		if !sameOrders(orders, without.Orders()) || !slices.Equal(with.Crews(), without.Crews()) {
			t.Fatal(orders, "instead of", without.Orders())
		}
		if len(orders) > 1 {
			left++
		}
	}
	counted(t, "smokes that were left out", left, 40)
}
