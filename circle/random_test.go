package circle_test

import (
	"math/rand/v2"
	"slices"

	"firetower/api"
)

func random(n uint64) *rand.Rand { return rand.New(rand.NewPCG(5, n)) }

func randomPlace(r *rand.Rand) api.Place { return at(r.IntN(49), r.IntN(49)) }

// otherPlace returns a place that is not the given one, now and then one beside it.
func otherPlace(r *rand.Rand, p api.Place) api.Place {
	for {
		q := randomPlace(r)
		if r.IntN(4) == 0 {
			q = at(p.X+r.IntN(5)-2, p.Y+r.IntN(5)-2)
		}
		if q != p && isPlace(q) {
			return q
		}
	}
}

// randomWedge returns a valid wedge, now and then a very wide or a very narrow one.
func randomWedge(r *rand.Rand) api.Wedge {
	from := r.IntN(3600)
	n := []int{r.IntN(901), r.IntN(20), 900 - r.IntN(3), r.IntN(2)}[r.IntN(4)]
	return wedge(from, (from+n)%3600)
}

// wrongWedges returns wedges that are not valid.
func wrongWedges() []api.Wedge {
	const most, least = 1<<63 - 1, -1 << 63
	return []api.Wedge{
		wedge(0, 901), wedge(2700, 1), wedge(10, 9), wedge(3599, 3598), wedge(0, 1800), wedge(100, 3500),
		wedge(-1, 5), wedge(5, -1), wedge(3600, 5), wedge(3590, 3600), wedge(-1, -1), wedge(3600, 3600), wedge(-3600, 0),
		wedge(most, 5), wedge(5, most), wedge(least, 5), wedge(5, least), wedge(most, most), wedge(least, least), wedge(most, least), wedge(least, most),
	}
}

// wrongPlaces returns places that are not of the map.
func wrongPlaces() []api.Place {
	const most, least = 1<<63 - 1, -1 << 63
	return []api.Place{at(-1, 5), at(5, -1), at(49, 5), at(5, 49), at(49, 49), at(-1, -1), at(most, 5), at(5, most), at(least, 5), at(5, least), at(least, most)}
}

// kind says what random circles are like.
type kind struct {
	circles, checks int // at most
	long            int // minutes of a circle, at most
	wild            int // one check of so many is of something else; 0 if none is
}

// randomCircle returns a circle that is in use for at most so many minutes.
func randomCircle(r *rand.Rand, id, long int) api.Circle {
	from := []int{0, r.IntN(1 << 20), 1<<20 - r.IntN(3)}[r.IntN(3)]
	lo := []int{-300, r.IntN(601) - 300, r.IntN(21) - 10, 300}[r.IntN(4)]
	return api.Circle{
		ID: id, At: randomPlace(r), From: from, To: min(1<<20, from+r.IntN(long)),
		Zero: span(lo, min(300, lo+[]int{0, r.IntN(10), r.IntN(200)}[r.IntN(3)])), Drift: []int{0, 60, r.IntN(61), r.IntN(10)}[r.IntN(4)],
	}
}

// zeroAt is a zero at a minute.
type zeroAt struct{ tick, zero int }

// drawn returns a zero that a circle can have at a minute if it has had others.
func drawn(r *rand.Rand, x api.Circle, had []zeroAt, tick int) int {
	lo, hi := -300, 300
	if tick == x.From {
		lo, hi = x.Zero.Lo, x.Zero.Hi
	}
	for _, z := range had {
		n := drifted(x.Drift, z.tick, tick)
		lo, hi = max(lo, z.zero-n), min(hi, z.zero+n)
	}
	switch r.IntN(6) {
	case 0:
		return lo
	case 1:
		return hi
	}
	return lo + r.IntN(hi-lo+1)
}

// shown returns a division that a circle with a zero can show.
func shown(r *rand.Rand, b ratio, zero, slack int) int {
	var l []int
	for n := b.down() + zero - slack; n <= b.down()+1+zero+slack; n++ {
		if canBe(b, zero, rest(n), slack) {
			l = append(l, rest(n))
		}
	}
	if r.IntN(3) == 0 {
		return l[(len(l)-1)*r.IntN(2)]
	}
	return l[r.IntN(len(l))]
}

// trueZeros is zeros that circles have had, by the circles' IDs.
type trueZeros map[int][]zeroAt

// minuteOf returns a minute of a circle.
func minuteOf(r *rand.Rand, x api.Circle) int {
	return []int{x.From, x.To, x.From + r.IntN(x.To-x.From+1), x.From + r.IntN(x.To-x.From+1)}[r.IntN(4)]
}

// randomSlack returns a slack, of which small ones are more frequent.
func randomSlack(r *rand.Rand) int { return []int{1, 1 + r.IntN(5), 1 + r.IntN(100)}[r.IntN(3)] }

// randomIDs returns IDs in no order.
func randomIDs(r *rand.Rand, n int) []int {
	out := r.Perm(n + 3)[:n]
	for i := range out {
		out[i]++
		if r.IntN(10) == 0 {
			out[i] += 1<<40 - 1000
		}
	}
	return out
}

// randomCircles returns circles with checks, and zeros with which all checks can be that are not wild.
func randomCircles(r *rand.Rand, k kind) (api.Circles, trueZeros) {
	var c api.Circles
	had := trueZeros{}
	for _, id := range randomIDs(r, 1+r.IntN(k.circles)) {
		x := randomCircle(r, id, k.long)
		c.Circles = append(c.Circles, x)
		had[id] = []zeroAt{{x.From, drawn(r, x, nil, x.From)}}
	}
	for _, id := range randomIDs(r, r.IntN(k.checks+1)) {
		x := c.Circles[r.IntN(len(c.Circles))]
		c.Checks = append(c.Checks, randomCheck(r, x, id, had, k.wild > 0 && r.IntN(k.wild) == 0))
	}
	return c, had
}

// randomCheck returns a check of a circle.
func randomCheck(r *rand.Rand, x api.Circle, id int, had trueZeros, wild bool) api.Check {
	out := api.Check{ID: id, Circle: x.ID, Tick: minuteOf(r, x), Mark: otherPlace(r, x.At), Slack: randomSlack(r)}
	zero := drawn(r, x, had[x.ID], out.Tick)
	b := plainBearing(x.At, out.Mark)
	switch {
	case wild && r.IntN(3) == 0:
		out.Shown = r.IntN(3600)
	case wild:
		out.Shown = shown(r, b, zero+r.IntN(41)-20, out.Slack)
	default:
		had[x.ID] = append(had[x.ID], zeroAt{out.Tick, zero})
		out.Shown = shown(r, b, zero, out.Slack)
	}
	return out
}

// randomReading returns a reading of a circle of some circles.
func randomReading(r *rand.Rand, c api.Circles) api.Reading {
	x := c.Circles[r.IntN(len(c.Circles))]
	return api.Reading{Circle: x.ID, Tick: minuteOf(r, x), Shown: r.IntN(3600), Slack: randomSlack(r)}
}

// minutesOf returns minutes of a circle, at most 400.
func minutesOf(r *rand.Rand, x api.Circle) api.Span {
	lo := minuteOf(r, x)
	return span(lo, min(x.To, lo+[]int{0, r.IntN(30), r.IntN(400), 399}[r.IntN(4)]))
}

// clean reports whether nothing contradicts anything in a circle.
func clean(c api.Circles, id int) bool { return len(plainClashesOf(c, id)) == 0 }

// fewMinutes returns circles with so few minutes that all their zeros can be listed.
func fewMinutes(r *rand.Rand) api.Circles {
	c, _ := randomCircles(r, kind{circles: 2, checks: 5, long: 6})
	for i := range c.Circles {
		x := &c.Circles[i]
		x.Zero.Hi = min(x.Zero.Hi, x.Zero.Lo+2)
	}
	for i := range c.Checks {
		k := &c.Checks[i]
		x := circleBy(c, k.Circle)
		k.Slack = min(k.Slack, 1+r.IntN(3))
		near := x.Zero.Lo + r.IntN(7) - 2
		k.Shown = shown(r, plainBearing(x.At, k.Mark), near, k.Slack)
	}
	return c
}

// mixedUp returns circles in another order.
func mixedUp(r *rand.Rand, c api.Circles) api.Circles {
	out := api.Circles{Circles: slices.Clone(c.Circles), Checks: slices.Clone(c.Checks)}
	r.Shuffle(len(out.Circles), func(i, j int) { out.Circles[i], out.Circles[j] = out.Circles[j], out.Circles[i] })
	r.Shuffle(len(out.Checks), func(i, j int) { out.Checks[i], out.Checks[j] = out.Checks[j], out.Checks[i] })
	return out
}
