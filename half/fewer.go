package half

import (
	"iter"
	"slices"

	"firetower/api"
)

// Core returns half-planes that have no point in common, none of which can be left out.
func Core(l []api.Half) ([]int, api.Errno) {
	if e := Check(l); e != api.OK {
		return nil, e
	}
	if len(corners(l)) > 0 {
		return nil, api.ErrNone
	}
	return fewer(l, slices.All(l)), api.OK
}

// fewer goes through the indices of a system in an order, and leaves each one out if the polygon of the others that are left is that of the system. It returns, in increasing order, those that are left.
func fewer(l []api.Half, order iter.Seq2[int, api.Half]) []int {
	whole := corners(l)
	left := make([]int, len(l))
	for i := range left {
		left[i] = i
	}
	for i := range order {
		rest := slices.DeleteFunc(slices.Clone(left), func(j int) bool { return j == i })
		if slices.Equal(corners(chosen(l, rest)), whole) {
			left = rest
		}
	}
	return left
}

// chosen returns the half-planes of a system with some indices.
func chosen(l []api.Half, at []int) []api.Half {
	out := make([]api.Half, len(at))
	for i, n := range at {
		out[i] = l[n]
	}
	return out
}

// Implied reports whether all points of a system lie in a half-plane.
func Implied(l []api.Half, h api.Half) (bool, api.Errno) {
	if e := Check(l); e != api.OK {
		return false, e
	}
	if !validHalf(h) {
		return false, api.ErrArg
	}
	for _, p := range corners(l) {
		if over(h, pointOf(p)) > 0 {
			return false, api.OK
		}
	}
	return true, api.OK
}

// Spare returns the half-planes each of which alone can be left out.
func Spare(l []api.Half) ([]int, api.Errno) {
	if e := Check(l); e != api.OK {
		return nil, e
	}
	whole := corners(l)
	var out []int
	for i := range l {
		if slices.Equal(corners(slices.Concat(l[:i], l[i+1:])), whole) {
			out = append(out, i)
		}
	}
	return out, api.OK
}

// Thin returns as many half-planes as are needed.
func Thin(l []api.Half) ([]int, api.Errno) {
	if e := Check(l); e != api.OK {
		return nil, e
	}
	return fewer(l, slices.Backward(l)), api.OK
}

// Same reports whether two systems have the same points.
func Same(l, m []api.Half) (bool, api.Errno) {
	if e := Check(l); e != api.OK {
		return false, e
	}
	if e := Check(m); e != api.OK {
		return false, e
	}
	return slices.Equal(corners(l), corners(m)), api.OK
}
