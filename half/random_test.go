package half_test

import (
	"math/rand/v2"
	"slices"

	"firetower/api"
)

// sign returns 1 or -1.
func sign(r *rand.Rand) int { return 1 - 2*r.IntN(2) }

// upTo returns a number from -n to n.
func upTo(r *rand.Rand, n int) int { return r.IntN(2*n+1) - n }

// slope returns an A and a B of which one is not 0.
func slope(r *rand.Rand, most int) (int, int) {
	for {
		if a, b := upTo(r, most), upTo(r, most); a != 0 || b != 0 {
			return a, b
		}
	}
}

// near returns a half-plane whose edge goes through a place, or not far from it.
func near(r *rand.Rand, p api.Place, most, far int) api.Half {
	a, b := slope(r, most)
	return api.Half{A: a, B: b, C: a*p.X + b*p.Y + upTo(r, far)}
}

func randomPlace(r *rand.Rand) api.Place { return api.Place{X: r.IntN(49), Y: r.IntN(49)} }

// around returns half-planes all of which hold a place, and some of which only just.
func around(r *rand.Rand, n, most, far int) []api.Half {
	p := randomPlace(r)
	var out []api.Half
	for range n {
		a, b := slope(r, most)
		out = append(out, api.Half{A: a, B: b, C: a*p.X + b*p.Y + r.IntN(far+1)})
	}
	return out
}

// anyHalf returns one of all valid half-planes.
func anyHalf(r *rand.Rand) api.Half {
	a, b := slope(r, 1000)
	return api.Half{A: a, B: b, C: upTo(r, 1<<18)}
}

// extremeHalf returns a half-plane with numbers that are as great as they can be, or nearly.
func extremeHalf(r *rand.Rand) api.Half {
	return api.Half{A: sign(r) * (1000 - r.IntN(3)), B: sign(r) * (1000 - r.IntN(3)), C: sign(r) * (1<<18 - r.IntN(3))}
}

// strip returns half-planes between whose edges there is a line, a small strip, or nothing.
func strip(r *rand.Rand) []api.Half {
	h := near(r, randomPlace(r), 5, 3)
	k := 1 + r.IntN(3)
	return []api.Half{h, {A: -k * h.A, B: -k * h.B, C: -k*h.C + upTo(r, 2)*r.IntN(2)}}
}

// randomSystem returns one of many kinds of right systems, with at most so many half-planes (at least 4).
func randomSystem(r *rand.Rand, most int) []api.Half {
	n := r.IntN(most + 1)
	var l []api.Half
	switch r.IntN(8) {
	case 0:
		l = around(r, n, 3, 6)
	case 1:
		l = around(r, n, 1000, 5000)
	case 2:
		l = around(r, n, 2, 1)
	case 3:
		p := randomPlace(r)
		for range n {
			l = append(l, near(r, p, 4, 4))
		}
	case 4:
		l = append(strip(r), strip(r)...)
	case 5:
		l = append(strip(r), around(r, n, 6, 90)...)
	case 6:
		for range n {
			l = append(l, near(r, randomPlace(r), 4, 2))
		}
	default:
		for range n {
			l = append(l, anyHalf(r))
		}
	}
	l = l[:min(len(l), most)]
	if len(l) > 0 && len(l) < most && r.IntN(3) == 0 {
		l = append(l, l[r.IntN(len(l))]) // one stands twice
	}
	r.Shuffle(len(l), func(i, j int) { l[i], l[j] = l[j], l[i] })
	return l
}

// kinds counts systems by what their polygon is: empty, a point, a part of a line, or more.
type kinds [4]int

func (k *kinds) count(l []api.Corner) { k[min(len(l), 3)]++ }

func (k *kinds) least() int { return slices.Min(k[:]) }

func randomForm(r *rand.Rand) api.Form {
	switch r.IntN(4) {
	case 0:
		return api.Form{X: upTo(r, 1000), Y: upTo(r, 1000)}
	case 1:
		return api.Form{X: 1000 * upTo(r, 1), Y: 1000 * upTo(r, 1)}
	}
	return api.Form{X: upTo(r, 3), Y: upTo(r, 3)}
}

// randomPoint returns a valid corner, mostly in the map.
func randomPoint(r *rand.Rand) api.Corner {
	den := 1 + r.IntN([]int{1, 2, 12, 2000}[r.IntN(4)])
	p := point{rat(r.IntN(50*den)-den, den), rat(r.IntN(50*den)-den, den)}
	return p.corner()
}

// form returns a half-plane's direction.
func form(h api.Half) api.Form { return api.Form{X: h.A, Y: h.B} }
