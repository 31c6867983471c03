package crew_test

import (
	"math/rand/v2"
	"slices"

	"firetower/api"
)

// random returns a generator of numbers that are the same in each run.
func random(seed uint64) *rand.Rand { return rand.New(rand.NewPCG(seed, 9)) }

// oneOf returns an element of a list.
func oneOf[T any](r *rand.Rand, l []T) T { return l[r.IntN(len(l))] }

// grid is the places of random trails.
func grid() []api.Place {
	return []api.Place{at(3, 1), at(0, 2), at(1, 0), at(3, 0), at(7, 5), at(2, 2)}
}

// randomSpans returns spans as a right trail has them, some of which are neighbours.
func randomSpans(r *rand.Rand) []api.Span {
	var out []api.Span
	for lo := r.IntN(20); lo < 63 && r.IntN(4) > 0; {
		hi := min(lo+r.IntN(12), 63)
		out = append(out, span(lo, hi))
		lo = hi + 1 + r.IntN(3)*r.IntN(8)
	}
	return out[:min(len(out), 8)]
}

func randomTrail(r *rand.Rand, id int) api.Trail {
	a := r.IntN(6)
	b := (a + 1 + r.IntN(5)) % 6
	n := 1 + r.IntN(12)
	return api.Trail{ID: id, A: grid()[a], B: grid()[b], Fast: 1 + r.IntN(n), Slow: n, Closed: randomSpans(r)}
}

// randomTrails returns up to eight trails, whose IDs are in no order, and some of which are the same but for the ID.
func randomTrails(r *rand.Rand) []api.Trail {
	var out []api.Trail
	ids := r.Perm(20)
	for i := range r.IntN(9) {
		t := randomTrail(r, 1+ids[i])
		if i > 0 && r.IntN(5) == 0 {
			t = oneOf(r, out)
			t.ID, t.A, t.B = 1+ids[i], t.B, t.A
		}
		out = append(out, t)
	}
	return copyOf(out)
}

// randomCell returns places by Y and then by X.
func randomCell(r *rand.Rand) []api.Place {
	var out []api.Place
	most := 1 + r.IntN(3)
	for y := range 10 {
		for x := range 10 {
			if len(out) < most && r.IntN(40) == 0 {
				out = append(out, at(x, y))
			}
		}
	}
	if len(out) == 0 {
		out = append(out, at(r.IntN(10), r.IntN(10)))
	}
	return out
}

// randomBlaze returns a smoke, which is mostly proved.
func randomBlaze(r *rand.Rand, id int) api.Blaze {
	return api.Blaze{ID: id, Cell: randomCell(r), Proved: r.IntN(4) > 0}
}

func randomCrew(r *rand.Rand, id int) api.Crew {
	return api.Crew{ID: id, At: oneOf(r, append(grid(), at(6, 6))), Free: r.IntN(70)}
}

// randomCrews returns up to some crews, whose IDs are in no order.
func randomCrews(r *rand.Rand, most int) []api.Crew {
	var out []api.Crew
	ids := r.Perm(20)
	for i := range r.IntN(most + 1) {
		out = append(out, randomCrew(r, 1+ids[i]))
	}
	return out
}

// randomBlazes returns up to some smokes, whose IDs are in no order.
func randomBlazes(r *rand.Rand, most int) []api.Blaze {
	var out []api.Blaze
	ids := r.Perm(20)
	for i := range r.IntN(most + 1) {
		out = append(out, randomBlaze(r, 1+ids[i]))
	}
	return out
}

// randomTable returns a table of times with many numbers that are the same.
func randomTable(r *rand.Rand, rows, columns int) [][]int {
	most := oneOf(r, []int{1, 2, 3, 6, 30, 1 << 24})
	out := make([][]int, rows)
	for i := range out {
		for range columns {
			n := r.IntN(most + 1)
			if r.IntN(3) == 0 {
				n = -1
			}
			out[i] = append(out[i], n)
		}
	}
	return out
}

// randomWay returns stages that are mostly nearly right.
func randomWay(r *rand.Rand, l []api.Trail, w []api.Stage) []api.Stage {
	out := slices.Clone(w)
	for range r.IntN(3) {
		if len(out) == 0 || r.IntN(4) == 0 {
			s := api.Stage{Trail: 1 + r.IntN(20), Tick: r.IntN(90)}
			if len(l) > 0 {
				s.Trail = oneOf(r, l).ID
			}
			out = slices.Insert(out, r.IntN(len(out)+1), s)
			continue
		}
		i := r.IntN(len(out))
		switch r.IntN(4) {
		case 0:
			out[i].Tick += oneOf(r, []int{-1, 1, 2, 20})
		case 1:
			out[i].Trail = 1 + r.IntN(20)
		case 2:
			out = slices.Delete(out, i, i+1)
		case 3:
			for j := i; j < len(out); j++ {
				out[j].Tick += 7
			}
		}
	}
	return out
}

// randomArrivals returns minutes that are mostly nearly right.
func randomArrivals(r *rand.Rand, a []api.Arrival) []api.Arrival {
	out := slices.Clone(a)
	for range r.IntN(3) {
		i := r.IntN(len(out))
		switch r.IntN(6) {
		case 0:
			out[i].Tick = -1
		case 1:
			out[i].Tick = r.IntN(100)
		case 2:
			out[i].At.X ^= 1
		default:
			out[i].Tick += r.IntN(7) - 4
		}
	}
	return out
}
