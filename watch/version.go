package watch

import (
	"cmp"
	"slices"

	"firetower/api"
)

// CheckVersions returns the first error of versions, and its index.
func CheckVersions(l []api.Version) (api.Errno, int) {
	if len(l) > api.MaxVersions {
		return api.ErrLimit, 0
	}
	for i, v := range l {
		if e := checkVersion(l[:i], v); e != api.OK {
			return e, i
		}
	}
	return api.OK, 0
}

// checkVersion returns the first error of a version, behind some others.
func checkVersion(before []api.Version, v api.Version) api.Errno {
	if !within(v.ID, 1, api.MaxID) || !isDay(v.From) || len(before) > 0 && v.From <= before[len(before)-1].From {
		return api.ErrArg
	}
	if slices.ContainsFunc(before, func(o api.Version) bool { return o.ID == v.ID }) {
		return api.ErrTwice
	}
	return Check(v.Watch)
}

// Add returns versions with one more, in its place.
func Add(l []api.Version, v api.Version) ([]api.Version, api.Errno) {
	if e, _ := CheckVersions(l); e != api.OK {
		return nil, e
	}
	if slices.ContainsFunc(l, func(o api.Version) bool { return o.ID == v.ID || o.From == v.From }) {
		return nil, api.ErrTwice
	}
	all := append(slices.Clone(l), v)
	slices.SortFunc(all, func(a, b api.Version) int { return cmp.Compare(a.From, b.From) })
	if e, _ := CheckVersions(all); e != api.OK {
		return nil, e
	}
	for i, o := range all {
		all[i].Watch = copied(o.Watch)
	}
	return all, api.OK
}

// InForce returns the version that is in force on a day.
func InForce(l []api.Version, day int) (api.Version, api.Errno) {
	if e, _ := CheckVersions(l); e != api.OK {
		return api.Version{}, e
	}
	if !isDay(day) {
		return api.Version{}, api.ErrArg
	}
	for _, v := range slices.Backward(l) {
		if v.From <= day {
			v.Watch = copied(v.Watch)
			return v, api.OK
		}
	}
	return api.Version{}, api.ErrNone
}

// copied returns a watch that shares no memory with another one.
func copied(w api.Watch) api.Watch {
	out := api.Watch{Lines: slices.Clone(w.Lines), Orders: slices.Clone(w.Orders)}
	for i, l := range out.Lines {
		out.Lines[i].Except = slices.Clone(l.Except)
	}
	for i, o := range out.Orders {
		out.Orders[i].When = copiedCond(o.When)
	}
	return out
}

// copiedCond returns a condition that shares no memory with another one.
func copiedCond(c api.Cond) api.Cond {
	c.Kids = slices.Clone(c.Kids)
	for i, kid := range c.Kids {
		c.Kids[i] = copiedCond(kid)
	}
	return c
}
