package ridge_test

import (
	"math/rand/v2"
	"slices"

	"firetower/api"
)

// random returns a generator of numbers that are the same in each run.
func random(seed uint64) *rand.Rand { return rand.New(rand.NewPCG(seed, 4)) }

// randomMap returns one of many kinds of right maps, with sides of at most so many places.
func randomMap(r *rand.Rand, most int) api.Map {
	m := api.Map{Wide: 1 + r.IntN(most), High: 1 + r.IntN(most)}
	kind := r.IntN(5)
	for i := range m.Wide * m.High {
		x, y := i%m.Wide, i/m.Wide
		n := 0
		switch kind {
		case 0:
			n = r.IntN(4001)
		case 1:
			n = r.IntN(5)
		case 2:
			n = 12 * r.IntN(6)
		case 3: // a slope with a few holes and heaps
			n = 6*x + 12*y + 6*(r.IntN(8)/7-r.IntN(8)/7)
		default: // a ridge
			n = (1 + r.IntN(2)) * 20 * max(0, 2-max(x-m.Wide/2, m.Wide/2-x))
		}
		m.Ground = append(m.Ground, max(n, 0))
	}
	return m
}

func randomPlace(r *rand.Rand, m api.Map) api.Place { return at(r.IntN(m.Wide), r.IntN(m.High)) }

// randomTall returns a height above the ground.
func randomTall(r *rand.Rand) int {
	return []int{0, r.IntN(5), r.IntN(30), 12 * r.IntN(6), r.IntN(201)}[r.IntN(5)]
}

// randomIDs returns different IDs, in no order.
func randomIDs(r *rand.Rand, n int) []int {
	var out []int
	for len(out) < n {
		id := []int{1 + r.IntN(20), 1 + r.IntN(1<<40), 1<<40 - r.IntN(3)}[r.IntN(3)]
		if !slices.Contains(out, id) {
			out = append(out, id)
		}
	}
	return out
}

// randomHaze returns right haze of the first 200 minutes.
func randomHaze(r *rand.Rand) []api.Haze {
	var out []api.Haze
	for tick := r.IntN(30); tick < 200; {
		h := api.Haze{From: tick, To: tick + r.IntN(20), Far: r.IntN(8)}
		out = append(out, h)
		tick = h.To + 1 + r.IntN(3)*r.IntN(30)
	}
	return out
}

// randomTick returns a minute, mostly one of the first 200.
func randomTick(r *rand.Rand) int {
	if r.IntN(5) == 0 {
		return r.IntN(1<<20 + 1)
	}
	return r.IntN(200)
}

// randomCountry returns a right country with a map of sides of at most so many places, and at most so many towers.
func randomCountry(r *rand.Rand, most, towers int) api.Country {
	c := api.Country{Map: randomMap(r, most)}
	for _, id := range randomIDs(r, r.IntN(towers+1)) {
		c.Towers = append(c.Towers, api.Tower{ID: id, At: randomPlace(r, c.Map), Height: randomTall(r)})
	}
	if r.IntN(3) > 0 {
		c.Haze = randomHaze(r)
	}
	return c
}

// anyID returns the ID of one of the towers of a country, of which there is one.
func anyID(r *rand.Rand, c api.Country) int { return c.Towers[r.IntN(len(c.Towers))].ID }

// sight is the arguments of a line on a map.
type sight struct {
	m        api.Map
	a, b     api.Place
	up, rise int
}

// randomSight returns a line on a map with sides of at most so many places; often a long one, and often one that is only just free, or only just not.
func randomSight(r *rand.Rand, most int) sight {
	m := randomMap(r, most)
	s := sight{m, randomPlace(r, m), randomPlace(r, m), randomTall(r), randomTall(r)}
	if r.IntN(2) == 0 {
		s.a.X, s.b.X = 0, m.Wide-1
	}
	if r.IntN(2) == 0 {
		s.a.Y, s.b.Y = m.High-1, 0
	}
	if r.IntN(3) == 0 {
		s.rise = min(200, max(0, plainNeeded(m, s.a, s.up, s.b)-r.IntN(2)))
	}
	return s
}
