package circle

import (
	"cmp"
	"slices"

	"firetower/api"
)

// Without returns circles without some checks.
func Without(c api.Circles, ids []int) (api.Circles, api.Errno) {
	if e := Check(c); e != api.OK {
		return api.Circles{}, e
	}
	for _, id := range ids {
		if !validID(id) {
			return api.Circles{}, api.ErrArg
		}
	}
	out := api.Circles{Circles: slices.Clone(c.Circles)}
	for _, x := range c.Checks {
		if !slices.Contains(ids, x.ID) {
			out.Checks = append(out.Checks, x)
		}
	}
	return out, api.OK
}

// Merge returns circles with everything that both have.
func Merge(a, b api.Circles) (api.Circles, api.Errno) {
	for _, c := range []api.Circles{a, b} {
		if e := Check(c); e != api.OK {
			return api.Circles{}, e
		}
	}
	out := api.Circles{Circles: slices.Clone(a.Circles), Checks: slices.Clone(a.Checks)}
	for _, x := range b.Circles {
		old, is := circleOf(a.Circles, x.ID)
		if is && old != x {
			return api.Circles{}, api.ErrTwice
		}
		if !is {
			out.Circles = append(out.Circles, x)
		}
	}
	for _, x := range b.Checks {
		old, is := checkOf(a.Checks, x.ID)
		if is && old != x {
			return api.Circles{}, api.ErrTwice
		}
		if !is {
			out.Checks = append(out.Checks, x)
		}
	}
	if tooMany(out) {
		return api.Circles{}, api.ErrLimit
	}
	slices.SortFunc(out.Circles, func(x, y api.Circle) int { return cmp.Compare(x.ID, y.ID) })
	slices.SortFunc(out.Checks, func(x, y api.Check) int { return cmp.Compare(x.ID, y.ID) })
	return out, api.OK
}
