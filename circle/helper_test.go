package circle_test

import (
	"cmp"
	"slices"
	"testing"

	"firetower/api"
)

// What follows is written from the chapter alone, so that the package can be held against it.

func at(x, y int) api.Place { return api.Place{X: x, Y: y} }

func span(lo, hi int) api.Span { return api.Span{Lo: lo, Hi: hi} }

func wedge(from, to int) api.Wedge { return api.Wedge{From: from, To: to} }

// example returns the circles of the chapter's examples.
func example() api.Circles {
	return api.Circles{
		Circles: []api.Circle{{ID: 1, At: at(10, 10), From: 0, To: 1000, Zero: span(-5, 5), Drift: 6}},
		Checks:  []api.Check{{ID: 7, Circle: 1, Tick: 100, Mark: at(20, 15), Shown: 230, Slack: 2}},
	}
}

func abs(n int) int { return max(n, -n) }

// rest returns the division that a number is.
func rest(n int) int {
	n %= 3600
	if n < 0 {
		n += 3600
	}
	return n
}

// ratio is a fraction with a denominator that is greater than 0.
type ratio struct{ num, den int }

func quotient(num, den int) ratio {
	if den < 0 {
		num, den = -num, -den
	}
	return ratio{num, den}
}

func (r ratio) equals(o ratio) bool { return r.num*o.den == o.num*r.den }

// turned returns a fraction in turns of 3600.
func (r ratio) turned() ratio {
	for r.num < 0 {
		r.num += 3600 * r.den
	}
	for r.num >= 3600*r.den {
		r.num -= 3600 * r.den
	}
	return r
}

// down returns a fraction rounded down.
func (r ratio) down() int {
	n := r.num / r.den
	for n*r.den > r.num {
		n--
	}
	return n
}

// plainVector returns the vector of a division from 0 to 3599.
func plainVector(d int) api.Place {
	switch {
	case d <= 450:
		return at(450, d)
	case d <= 1350:
		return at(900-d, 450)
	case d <= 2250:
		return at(-450, 1800-d)
	case d <= 3150:
		return at(d-2700, -450)
	}
	return at(450, d-3600)
}

// bearings returns what each of the chapter's sentences says that applies to the direction of a vector.
func bearings(x, y int) []ratio {
	var out []ratio
	if abs(y) <= x {
		out = append(out, quotient(450*y, x))
	}
	if abs(x) <= y {
		out = append(out, quotient(900*y-450*x, y))
	}
	if abs(y) <= -x {
		out = append(out, quotient(1800*x+450*y, x))
	}
	if abs(x) <= -y {
		out = append(out, quotient(2700*y-450*x, y))
	}
	for i := range out {
		out[i] = out[i].turned()
	}
	return out
}

// plainBearing returns the bearing of the direction from one place to another one.
func plainBearing(from, to api.Place) ratio { return bearings(to.X-from.X, to.Y-from.Y)[0] }

func isPlace(p api.Place) bool { return p.X >= 0 && p.X <= 48 && p.Y >= 0 && p.Y <= 48 }

func isDivision(n int) bool { return n >= 0 && n < 3600 }

func isWedge(w api.Wedge) bool {
	return isDivision(w.From) && isDivision(w.To) && rest(w.To-w.From) <= 900
}

// has reports whether a valid wedge has a bearing.
func has(w api.Wedge, b ratio) bool {
	beyond := ratio{b.num - w.From*b.den, b.den}.turned()
	return beyond.num <= rest(w.To-w.From)*b.den
}

// plainLies reports whether a place lies in a wedge, seen from another place.
func plainLies(w api.Wedge, from, p api.Place) bool {
	return isWedge(w) && isPlace(from) && isPlace(p) && from != p && has(w, plainBearing(from, p))
}

// allPlaces returns all places of the map.
func allPlaces() []api.Place {
	var out []api.Place
	for y := range 49 {
		for x := range 49 {
			out = append(out, at(x, y))
		}
	}
	return out
}

// canBe reports whether a reading of something with a bearing can be, with a zero.
func canBe(b ratio, zero, shown, slack int) bool {
	for k := -2; k <= 2; k++ {
		if abs(b.num+(zero-shown+3600*k)*b.den) <= slack*b.den {
			return true
		}
	}
	return false
}

func circleBy(c api.Circles, id int) api.Circle {
	i := slices.IndexFunc(c.Circles, func(x api.Circle) bool { return x.ID == id })
	return c.Circles[i]
}

// checkCan reports whether a check can be, with a zero.
func checkCan(c api.Circles, k api.Check, zero int) bool {
	return canBe(plainBearing(circleBy(c, k.Circle).At, k.Mark), zero, k.Shown, k.Slack)
}

// plainAlone returns the zeros that a check allows, and whether there are any.
func plainAlone(c api.Circles, k api.Check) (api.Span, bool) {
	var l []int
	for z := -300; z <= 300; z++ {
		if checkCan(c, k, z) {
			l = append(l, z)
		}
	}
	if len(l) == 0 {
		return api.Span{}, false
	}
	return span(l[0], l[len(l)-1]), true
}

// drifted returns how far a zero drifts between two minutes.
func drifted(drift, s, t int) int {
	n := drift * abs(s-t)
	for n%60 != 0 {
		n++
	}
	return n / 60
}

// known is something that is known of a zero: the number of a thing, its minute, and its span.
type known struct {
	id, tick int
	zeros    api.Span
	never    bool // there is no zero that it allows
}

// thingsOf returns the things of a circle, by their numbers.
func thingsOf(c api.Circles, id int) []known {
	x := circleBy(c, id)
	out := []known{{0, x.From, x.Zero, false}}
	for _, k := range c.Checks {
		if k.Circle == id {
			s, some := plainAlone(c, k)
			out = append(out, known{k.ID, k.Tick, s, !some})
		}
	}
	slices.SortFunc(out, func(a, b known) int { return cmp.Compare(a.id, b.id) })
	return out
}

// spanBy returns the least and the greatest zero at a minute by some things that do not contradict each other.
func spanBy(drift int, l []known, tick int) api.Span {
	out := span(-300, 300)
	for _, x := range l {
		n := drifted(drift, x.tick, tick)
		out.Lo, out.Hi = max(out.Lo, x.zeros.Lo-n), min(out.Hi, x.zeros.Hi+n)
	}
	return out
}

// plainZero returns the span of a circle's zero at a minute.
func plainZero(c api.Circles, id, tick int) api.Span {
	return spanBy(circleBy(c, id).Drift, thingsOf(c, id), tick)
}

// plainRests returns the numbers of the things, of some, on which the span at a minute rests.
func plainRests(drift int, l []known, tick int) (int, int) {
	z, lo, hi := spanBy(drift, l, tick), -1, -1
	for _, x := range l {
		s := spanBy(drift, []known{x}, tick)
		if lo < 0 && s.Lo == z.Lo {
			lo = x.id
		}
		if hi < 0 && s.Hi == z.Hi {
			hi = x.id
		}
	}
	if z.Lo == -300 {
		lo = 0
	}
	if z.Hi == 300 {
		hi = 0
	}
	return lo, hi
}

// contradict reports whether two things of a circle contradict each other.
func contradict(drift int, a, b known) bool {
	n := drifted(drift, a.tick, b.tick)
	return !a.never && !b.never && (a.zeros.Lo > b.zeros.Hi+n || b.zeros.Lo > a.zeros.Hi+n)
}

// plainClashesOf returns the pairs of one circle.
func plainClashesOf(c api.Circles, id int) [][2]int {
	var out [][2]int
	l, drift := thingsOf(c, id), circleBy(c, id).Drift
	for _, a := range l {
		for _, b := range l {
			if a.id == b.id && a.never || a.id < b.id && contradict(drift, a, b) {
				out = append(out, [2]int{a.id, b.id})
			}
		}
	}
	return out
}

func plainClashes(c api.Circles) [][2]int {
	var out [][2]int
	for _, x := range c.Circles {
		out = append(out, plainClashesOf(c, x.ID)...)
	}
	return out
}

// less returns circles without a check.
func less(c api.Circles, id int) api.Circles {
	c.Checks = slices.DeleteFunc(slices.Clone(c.Checks), func(k api.Check) bool { return k.ID == id })
	return c
}

// checkIDs returns the IDs of all checks, in increasing order.
func checkIDs(c api.Circles) []int {
	var out []int
	for _, k := range c.Checks {
		out = append(out, k.ID)
	}
	slices.Sort(out)
	return out
}

func plainSuspects(c api.Circles) []int {
	var out []int
	for _, id := range checkIDs(c) {
		if len(plainClashes(c)) > 0 && len(plainClashes(less(c, id))) == 0 {
			out = append(out, id)
		}
	}
	return out
}

// openingBy returns how wide the wedge of a reading is by some things.
func openingBy(drift int, l []known, r api.Reading) int {
	z := spanBy(drift, l, r.Tick)
	return 2*r.Slack + z.Hi - z.Lo
}

// plainWedge returns the wedge of a reading; with the limits as they are, none is too wide.
func plainWedge(c api.Circles, r api.Reading) api.Wedge {
	z := plainZero(c, r.Circle, r.Tick)
	return wedge(rest(r.Shown-r.Slack-z.Hi), rest(r.Shown+r.Slack-z.Lo))
}

// plainNeeded returns the checks without which the wedge of a reading is another one.
func plainNeeded(c api.Circles, r api.Reading) []int {
	var out []int
	for _, id := range checkIDs(c) {
		if plainWedge(less(c, id), r) != plainWedge(c, r) {
			out = append(out, id)
		}
	}
	return out
}

// plainBest returns the minute at which it helps a reading most to know the zero.
func plainBest(c api.Circles, r api.Reading, ticks api.Span) int {
	drift, l := circleBy(c, r.Circle).Drift, thingsOf(c, r.Circle)
	best, use := -1, 0
	for t := ticks.Lo; t <= ticks.Hi; t++ {
		z := spanBy(drift, l, t)
		n := 0
		for _, end := range []int{z.Lo, z.Hi} {
			n = max(n, openingBy(drift, append(slices.Clone(l), known{-1, t, span(end, end), false}), r))
		}
		if best < 0 || n < use {
			best, use = t, n
		}
	}
	return best
}

// sequences yields all possible zeros of a circle with few minutes, by the words of the chapter: what is between the checks is looked for, too.
func sequences(c api.Circles, id int) [][]int {
	x := circleBy(c, id)
	var out [][]int
	var grow func(l []int)
	grow = func(l []int) {
		t := x.From + len(l)
		if t > x.To {
			out = append(out, slices.Clone(l))
			return
		}
		lo, hi := x.Zero.Lo, x.Zero.Hi
		if len(l) > 0 {
			lo, hi = max(-300, l[0]-60), min(300, l[0]+60)
		}
		for z := lo; z <= hi; z++ {
			if mayFollow(c, x, l, z) {
				grow(append(l, z))
			}
		}
	}
	grow(nil)
	return out
}

// mayFollow reports whether a zero can come behind others, by how far it differs from each of them, and by the checks of its minute.
func mayFollow(c api.Circles, x api.Circle, l []int, z int) bool {
	t := x.From + len(l)
	for i, o := range l {
		if abs(z-o) > drifted(x.Drift, x.From+i, t) {
			return false
		}
	}
	for _, k := range c.Checks {
		if k.Circle == x.ID && k.Tick == t && !checkCan(c, k, z) {
			return false
		}
	}
	return true
}

// counted fails a test if something that it should have met was too seldom.
func counted(t *testing.T, what string, n, least int) {
	t.Helper()
	if n < least {
		t.Error("only", n, what, "instead of", least)
	}
}
