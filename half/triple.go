package half

import "firetower/api"

// triple is three numbers: x, y and their divisor of a point, the coefficients of an edge, or how often each of three half-planes is added.
type triple [3]int

// normal returns a triple whose sum of products with each of two others is 0: the point in two edges, and also what makes the sums of A and of B vanish.
func normal(a, b triple) triple {
	var out triple
	for i := range out {
		j, k := (i+1)%3, (i+2)%3
		out[i] = a[j]*b[k] - a[k]*b[j]
	}
	return out
}

// negative returns a triple with all numbers negated.
func (t triple) negative() triple { return triple{-t[0], -t[1], -t[2]} }

// pointOf returns a corner as a triple.
func pointOf(p api.Corner) triple { return triple{p.X, p.Y, p.Den} }

// cornerOf returns a point with a divisor greater than 0 as a corner.
func cornerOf(p triple) api.Corner {
	d := divisor(p[0], p[1], p[2])
	return api.Corner{X: p[0] / d, Y: p[1] / d, Den: p[2] / d}
}

// crossing returns the point in which two edges cross; its divisor is at least 0, and 0 only if they are parallel, or one.
func crossing(g, h api.Half) triple {
	p := normal(triple{g.A, g.B, -g.C}, triple{h.A, h.B, -h.C})
	if p[2] < 0 {
		return p.negative()
	}
	return p
}

// over returns a number greater than 0 if a point lies beyond the edge of a half-plane, 0 if it lies in the edge, and one less than 0 otherwise.
func over(h api.Half, p triple) int { return h.A*p[0] + h.B*p[1] - h.C*p[2] }

// balance returns how often three half-planes have to be added so that the sums of A and of B are 0, without a common divisor. All is 0 if one of them would have to be subtracted, or if all three edges are parallel.
func balance(g, h, k api.Half) triple {
	t := normal(triple{g.A, h.A, k.A}, triple{g.B, h.B, k.B})
	if min(t[0], t[1], t[2]) < 0 {
		t = t.negative()
	}
	if min(t[0], t[1], t[2]) < 0 || t == (triple{}) {
		return triple{}
	}
	d := divisor(t[0], t[1], t[2])
	return triple{t[0] / d, t[1] / d, t[2] / d}
}
