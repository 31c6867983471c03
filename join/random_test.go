package join_test

import (
	"math/rand/v2"
	"slices"

	"firetower/api"
	"firetower/cell"
	"firetower/circle"
)

func random(n uint64) *rand.Rand { return rand.New(rand.NewPCG(7, n)) }

// smoke is where a smoke stands, from when on it can be seen, and which sightings are of it.
type smoke struct {
	at   api.Place
	from int
	ids  []int
}

// world is a day, and the smokes of which its sightings are. All zeros of its circles are 0, though the circles may not tell that.
type world struct {
	d      api.Day
	smokes []smoke
}

func placeOf(r *rand.Rand, m api.Map) api.Place { return at(r.IntN(m.Wide), r.IntN(m.High)) }

// randomService returns a service with towers that mostly see most of a map with at most so many columns and rows.
func randomService(r *rand.Rand, most int) api.Service {
	var s api.Service
	s.Country.Map = flat(2+r.IntN(most-1), 2+r.IntN(most-1))
	if r.IntN(3) == 0 {
		for i := range s.Country.Map.Ground {
			s.Country.Map.Ground[i] = r.IntN(12)
		}
	}
	for i := range 2 + r.IntN(4) {
		t := api.Tower{ID: 1 + (i*5)%9, At: placeOf(r, s.Country.Map), Height: r.IntN(61)}
		z := []int{0, 0, 0, r.IntN(10), r.IntN(60)}[r.IntN(5)]
		s.Country.Towers = append(s.Country.Towers, t)
		s.Circles.Circles = append(s.Circles.Circles, api.Circle{ID: 1 + (i*3)%7, At: t.At, To: 2000, Zero: span(-z, z), Drift: r.IntN(3)})
	}
	if r.IntN(4) == 0 {
		from := r.IntN(200)
		s.Country.Haze = []api.Haze{{From: from, To: from + r.IntN(60), Far: r.IntN(6)}}
	}
	return s
}

// crowdedService returns a service with towers that see all of a flat map.
func crowdedService(r *rand.Rand) api.Service {
	var s api.Service
	s.Country.Map = flat(8+r.IntN(6), 8+r.IntN(6))
	for i, p := range []api.Place{{}, {X: s.Country.Map.Wide - 1}, {Y: s.Country.Map.High - 1}, placeOf(r, s.Country.Map)} {
		s.Country.Towers = append(s.Country.Towers, api.Tower{ID: i + 1, At: p, Height: 50})
		s.Circles.Circles = append(s.Circles.Circles, api.Circle{ID: 9 - i, At: p, To: 2000})
	}
	return s
}

// randomWorld returns a world without reports, whose map has at most so many columns and rows, or about a dozen.
func randomWorld(r *rand.Rand, most int) world {
	w := world{d: api.Day{Service: randomService(r, most), Rise: r.IntN(60), Long: []int{0, 1440, 1440, r.IntN(200), 60}[r.IntN(5)]}}
	if most < 49 && r.IntN(2) == 0 {
		w.d.Service = crowdedService(r)
	}
	for range 1 + r.IntN(4) {
		w.smokes = append(w.smokes, smoke{at: placeOf(r, w.d.Service.Country.Map), from: r.IntN([]int{150, 20}[r.IntN(2)])})
	}
	return w
}

// start returns a report without an ID by one of the towers, at a minute.
func (w world) start(r *rand.Rand, tick int) api.Report {
	i := r.IntN(len(w.d.Service.Country.Towers))
	return api.Report{Tower: w.d.Service.Country.Towers[i].ID, Circle: w.d.Service.Circles.Circles[i].ID, Tick: tick, Slack: 1 + r.IntN([]int{1, 30, 30, 100}[r.IntN(4)])}
}

// standsAt returns where the circle of a report stands.
func (w world) standsAt(x api.Report) api.Place {
	l := w.d.Service.Circles.Circles
	return l[slices.IndexFunc(l, func(c api.Circle) bool { return c.ID == x.Circle })].At
}

// fresh returns an ID that no report has.
func (w world) fresh(r *rand.Rand) int {
	for {
		id := 1 + r.IntN(60)
		if !slices.ContainsFunc(w.d.Reports, func(x api.Report) bool { return x.ID == id }) {
			return id
		}
	}
}

// alone returns the burn of one minute.
func (w world) alone(tick int) api.Burn { return api.Burn{From: tick, To: tick, Rise: w.d.Rise} }

// see adds at most so many true sightings.
func (w *world) see(r *rand.Rand, n int) {
	for range n {
		i := r.IntN(len(w.smokes))
		x := w.start(r, w.smokes[i].from+r.IntN(min(w.d.Long, 100)+1))
		shown, ok := circle.Shows(w.standsAt(x), w.smokes[i].at, 0, x.Slack)
		if !ok {
			continue
		}
		x.ID, x.Kind = w.fresh(r), api.ReSight
		x.From = (shown.Lo + r.IntN(shown.Hi-shown.Lo+1) + 3600) % 3600
		if is, _ := cell.Allows(w.d.Service, w.alone(x.Tick), x, w.smokes[i].at); is {
			w.smokes[i].ids = append(w.smokes[i].ids, x.ID)
			w.d.Reports = append(w.d.Reports, x)
		}
	}
}

// burned returns the smokes that were seen.
func (w world) burned() []smoke {
	var out []smoke
	for _, s := range w.smokes {
		if len(s.ids) > 0 {
			slices.Sort(s.ids)
			out = append(out, s)
		}
	}
	slices.SortFunc(out, func(a, b smoke) int { return slices.Compare(a.ids, b.ids) })
	return out
}

// anyTick returns a minute, mostly one between sightings.
func (w world) anyTick(r *rand.Rand) int {
	if len(w.d.Reports) == 0 || r.IntN(6) == 0 {
		return r.IntN(260)
	}
	a, b := w.d.Reports[r.IntN(len(w.d.Reports))].Tick, w.d.Reports[r.IntN(len(w.d.Reports))].Tick
	return min(a, b) + r.IntN(max(a, b)-min(a, b)+1)
}

// toAnyPlace returns a division in which a report can have shown a place of the map.
func (w world) toAnyPlace(r *rand.Rand, x api.Report) int {
	if to, ok := circle.Division(w.standsAt(x), placeOf(r, w.d.Service.Country.Map)); ok && r.IntN(8) > 0 {
		return to
	}
	return r.IntN(3600)
}

// anyBlank returns a blank of anything.
func (w world) anyBlank(r *rand.Rand) api.Report {
	x := w.start(r, w.anyTick(r))
	open := []int{900, r.IntN(901), 400 + r.IntN(501)}[r.IntN(3)]
	x.ID, x.Kind, x.From = w.fresh(r), api.ReBlank, (w.toAnyPlace(r, x)-r.IntN(open+1)+3600)%3600
	x.To = (x.From + open) % 3600
	return x
}

// anySighting returns a sighting of anything.
func (w world) anySighting(r *rand.Rand) api.Report {
	x := w.start(r, w.anyTick(r))
	x.ID, x.Kind, x.From = w.fresh(r), api.ReSight, w.toAnyPlace(r, x)
	return x
}

// miss adds so many blanks that exclude no smoke, if there can be so many.
func (w *world) miss(r *rand.Rand, n int) {
	for range 3 * n {
		x := w.anyBlank(r)
		excluded := func(s smoke) bool {
			is, _ := cell.Allows(w.d.Service, plainBurn(w.d, s.ids), x, s.at)
			return !is
		}
		if n > 0 && !slices.ContainsFunc(w.burned(), excluded) {
			w.d.Reports = append(w.d.Reports, x)
			n--
		}
	}
}

// trueWorld returns a world with at most so many sightings, and with blanks, all of which are true.
func trueWorld(r *rand.Rand, most, sightings int) world {
	w := randomWorld(r, most)
	w.see(r, sightings)
	w.miss(r, r.IntN(4))
	w.d = shuffled(r, w.d)
	return w
}

// shuffled returns a day with its reports in another order.
func shuffled(r *rand.Rand, d api.Day) api.Day {
	d.Reports = slices.Clone(d.Reports)
	r.Shuffle(len(d.Reports), func(i, j int) { d.Reports[i], d.Reports[j] = d.Reports[j], d.Reports[i] })
	return d
}

// randomDay returns a day with at most so many sightings, and with blanks, not all of which need to be true.
func randomDay(r *rand.Rand, most, sightings int) api.Day {
	w := randomWorld(r, most)
	w.see(r, sightings-r.IntN(1+r.IntN(sightings+1)))
	for range r.IntN(sightings + 1 - len(w.d.Reports)) {
		w.d.Reports = append(w.d.Reports, w.anySighting(r))
	}
	if r.IntN(3) > 0 {
		w.miss(r, r.IntN(4))
	}
	for range r.IntN(3) {
		w.d.Reports = append(w.d.Reports, w.anyBlank(r))
	}
	return shuffled(r, w.d)
}

// further returns a blank that a day does not have.
func further(r *rand.Rand, d api.Day) api.Report { return world{d: d}.anyBlank(r) }

// pairOf returns two sightings of a day, in any order, and whether it has two.
func pairOf(r *rand.Rand, d api.Day) (a, b int, ok bool) {
	ids := plainSightings(d)
	if len(ids) < 2 {
		return 0, 0, false
	}
	l := r.Perm(len(ids))
	return ids[l[0]], ids[l[1]], true
}
