package cell_test

import (
	"math/rand/v2"
	"slices"

	"firetower/api"
	"firetower/circle"
)

func random(n uint64) *rand.Rand { return rand.New(rand.NewPCG(6, n)) }

// world is a service, and a smoke of which it is known where and when it burned. All zeros of the circles are known, too: each one drifts in one direction, or not at all.
type world struct {
	s      api.Service
	b      api.Burn
	smoke  api.Place
	zeros  []int // at the beginning, for each circle
	drifts []int // 1, 0 or -1 for each circle
}

// zero returns the zero of the circle with an index at a minute.
func (w world) zero(i, tick int) int {
	c := w.s.Circles.Circles[i]
	return min(300, max(-300, w.zeros[i]+w.drifts[i]*(c.Drift*(tick-c.From)/60)))
}

func placeOf(r *rand.Rand, m api.Map) api.Place { return at(r.IntN(m.Wide), r.IntN(m.High)) }

func randomCountry(r *rand.Rand, most int) api.Country {
	c := api.Country{Map: flat(1+r.IntN(most), 1+r.IntN(most), 5)}
	if r.IntN(3) > 0 {
		for i := range c.Map.Ground {
			c.Map.Ground[i] = r.IntN(40)
		}
	}
	for i := range 1 + r.IntN(4) {
		c.Towers = append(c.Towers, api.Tower{ID: 1 + (i*7)%5, At: placeOf(r, c.Map), Height: r.IntN(61)})
	}
	for last := r.IntN(100); last < 300; last += r.IntN(100) {
		c.Haze = append(c.Haze, api.Haze{From: last, To: last + r.IntN(40), Far: r.IntN(12)})
		last += 41
	}
	return c
}

// randomWorld returns a world whose map has at most so many columns and rows.
func randomWorld(r *rand.Rand, most int) world {
	w := world{s: api.Service{Country: randomCountry(r, most)}}
	w.smoke = placeOf(r, w.s.Country.Map)
	from := r.IntN(200)
	w.b = api.Burn{From: from, To: from + r.IntN(200), Rise: r.IntN(60)}
	towers := w.s.Country.Towers
	for i := range len(towers) + r.IntN(3) {
		lo := []int{-300, r.IntN(601) - 300, r.IntN(21) - 10, 300}[r.IntN(4)]
		z := span(lo, min(300, lo+[]int{0, r.IntN(10), r.IntN(200)}[r.IntN(3)]))
		c := api.Circle{ID: 1 + (i*5)%7, At: towers[i%len(towers)].At, From: r.IntN(50), To: 350 + r.IntN(50), Zero: z, Drift: []int{0, r.IntN(10), r.IntN(61)}[r.IntN(3)]}
		w.s.Circles.Circles = append(w.s.Circles.Circles, c)
		w.zeros = append(w.zeros, z.Lo+r.IntN(z.Hi-z.Lo+1))
		w.drifts = append(w.drifts, r.IntN(3)-1)
	}
	for id := range r.IntN(8) {
		w.addCheck(r, id+1)
	}
	return w
}

// addCheck adds a check that can be.
func (w *world) addCheck(r *rand.Rand, id int) {
	i := r.IntN(len(w.zeros))
	c := w.s.Circles.Circles[i]
	k := api.Check{ID: id, Circle: c.ID, Tick: c.From + r.IntN(c.To-c.From+1), Mark: at(r.IntN(49), r.IntN(49)), Slack: 1 + r.IntN(10)}
	shown, ok := circle.Shows(c.At, k.Mark, w.zero(i, k.Tick), k.Slack)
	if ok {
		k.Shown = rest(shown.Lo + r.IntN(shown.Hi-shown.Lo+1))
		w.s.Circles.Checks = append(w.s.Circles.Checks, k)
	}
}

// start returns a report by one of the towers and one of its circles, whose index is returned too, at a minute.
func (w world) start(r *rand.Rand) (api.Report, int) {
	i := r.IntN(len(w.zeros))
	c := w.s.Circles.Circles[i]
	var towers []int
	for _, t := range w.s.Country.Towers {
		if t.At == c.At {
			towers = append(towers, t.ID)
		}
	}
	tick := c.From + r.IntN(c.To-c.From+1)
	if n := w.b.From + r.IntN(w.b.To-w.b.From+1); r.IntN(6) > 0 && n >= c.From && n <= c.To {
		tick = n
	}
	return api.Report{Kind: api.ReSight, Tower: towers[r.IntN(len(towers))], Circle: c.ID, Tick: tick, Slack: []int{1, 1 + r.IntN(10), 1 + r.IntN(100)}[r.IntN(3)]}, i
}

// sights returns a sighting of the smoke, if the tower sees it.
func (w world) sights(r *rand.Rand) (api.Report, bool) {
	x, i := w.start(r)
	shown, ok := circle.Shows(w.s.Circles.Circles[i].At, w.smoke, w.zero(i, x.Tick), x.Slack)
	if !ok || !plainSees(w.s, w.b, x.Tower, w.smoke, x.Tick) {
		return api.Report{}, false
	}
	x.From = rest([]int{shown.Lo, shown.Hi, shown.Lo + r.IntN(shown.Hi-shown.Lo+1)}[r.IntN(3)])
	return x, true
}

// misses returns a blank that one can have told: the smoke was not seen, or its bearing was not among those that were really looked over. Often it only just was not.
func (w world) misses(r *rand.Rand) (api.Report, bool) {
	x, i := w.start(r)
	x.Kind = api.ReBlank
	stands, zero := w.s.Circles.Circles[i].At, w.zero(i, x.Tick)
	bearing, ok := circle.Division(stands, w.smoke)
	begin, open := r.IntN(3600), r.IntN(901)
	first, last := upTo(r, x.Slack), upTo(r, x.Slack)
	switch r.IntN(3) {
	case 0:
		begin = bearing + 1
	case 1:
		begin = bearing - 1 - open - last + first
	}
	// What was really looked over begins at begin, and ends so many divisions to the left of it.
	long := open - first + last
	x.From = rest(begin + zero - first)
	x.To = rest(x.From + open)
	seen := ok && plainSees(w.s, w.b, x.Tower, w.smoke, x.Tick)
	return x, !seen || long < 0 || !bearingWithin(begin, long, stands, w.smoke)
}

// bearingWithin reports whether the bearing to a place is one of the divisions from one on, so many to the left. These can be more than a wedge has.
func bearingWithin(begin, long int, from, p api.Place) bool {
	for n := 0; n <= long; n++ {
		if circle.Lies(wedge(rest(begin+n), rest(begin+min(n+1, long))), from, p) {
			return true
		}
	}
	return false
}

// upTo returns a number from -n to n, of which both are frequent.
func upTo(r *rand.Rand, n int) int { return []int{-n, n, r.IntN(2*n+1) - n}[r.IntN(3)] }

// anyReport returns a report of anything.
func (w world) anyReport(r *rand.Rand) api.Report {
	x, _ := w.start(r)
	x.From = r.IntN(3600)
	if r.IntN(2) == 0 {
		x.Kind, x.To = api.ReBlank, rest(x.From+[]int{r.IntN(901), 900, r.IntN(250)}[r.IntN(3)])
	}
	return x
}

// truly returns at most so many reports that are true.
func (w world) truly(r *rand.Rand, n int) []api.Report {
	var out []api.Report
	for range n {
		tell := w.sights
		if r.IntN(2) == 0 {
			tell = w.misses
		}
		if x, ok := tell(r); ok {
			out = append(out, x)
		}
	}
	return named(r, out)
}

// mixed returns at most so many reports, of which some are not true.
func (w world) mixed(r *rand.Rand, n int) []api.Report {
	out := w.truly(r, r.IntN(n+1))
	for range r.IntN(n + 1 - len(out)) {
		out = append(out, w.anyReport(r))
	}
	r.Shuffle(len(out), func(i, j int) { out[i], out[j] = out[j], out[i] })
	return named(r, out)
}

// named gives IDs to reports, in no order.
func named(r *rand.Rand, l []api.Report) []api.Report {
	for i, id := range r.Perm(len(l) + 3)[:len(l)] {
		l[i].ID = id + 1
	}
	return l
}

// shuffled returns reports in another order.
func shuffled(r *rand.Rand, l []api.Report) []api.Report {
	out := slices.Clone(l)
	r.Shuffle(len(out), func(i, j int) { out[i], out[j] = out[j], out[i] })
	return out
}

// anyLook returns a look, often one that is not too wide.
func (w world) anyLook(r *rand.Rand) api.Look {
	x, _ := w.start(r)
	from := r.IntN(3600)
	return api.Look{Tower: x.Tower, Circle: x.Circle, Tick: x.Tick, From: from, To: rest(from + r.IntN(901)), Slack: x.Slack}
}

// look returns a look that is not too wide.
func (w world) look(r *rand.Rand) api.Look {
	for {
		if x := w.anyLook(r); wideOpening(w.s, x) <= 900 {
			return x
		}
	}
}

func randomForm(r *rand.Rand) api.Form {
	n := []int{3, 1000}[r.IntN(2)]
	return api.Form{X: r.IntN(2*n+1) - n, Y: r.IntN(2*n+1) - n}
}
