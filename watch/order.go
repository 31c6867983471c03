package watch

import "firetower/api"

// given returns the index of the order that is given for facts; -1 if there is none.
func given(l []api.Order, f *[api.Facts]int) int {
	best := -1
	for i := range l {
		if (best < 0 || l[i].Rank > l[best].Rank) && holds(&l[i].When, f) {
			best = i
		}
	}
	return best
}

// nameGiven returns the name of the order that is given for facts; it is empty if there is none.
func nameGiven(l []api.Order, f *[api.Facts]int) string {
	if i := given(l, f); i >= 0 {
		return l[i].Name
	}
	return ""
}

// conditionsOf returns the conditions of all orders of a list.
func conditionsOf(l []api.Order) []api.Cond {
	var out []api.Cond
	for _, o := range l {
		out = append(out, o.When)
	}
	return out
}

// Decide returns the index of the order that is given for facts.
func Decide(l []api.Order, f [api.Facts]int) (int, bool, api.Errno) {
	if e := checkOrders(l); e != api.OK {
		return 0, false, e
	}
	if !areFacts(f) {
		return 0, false, api.ErrArg
	}
	i := given(l, &f)
	return max(i, 0), i >= 0, api.OK
}

// Unused returns the indices of the orders that are never given.
func Unused(l []api.Order) ([]int, api.Errno) {
	if e := checkOrders(l); e != api.OK {
		return nil, e
	}
	x, e := choicesFor(conditionsOf(l))
	if e != api.OK {
		return nil, e
	}
	used := make([]bool, len(l))
	for f := range x.all() {
		if i := given(l, &f); i >= 0 {
			used[i] = true
		}
	}
	var out []int
	for i, is := range used {
		if !is {
			out = append(out, i)
		}
	}
	return out, api.OK
}

// SameOrders reports whether two lists of orders give orders of the same name for all facts, and returns facts for which they do not.
func SameOrders(a, b []api.Order) ([api.Facts]int, bool, api.Errno) {
	for _, l := range [][]api.Order{a, b} {
		if e := checkOrders(l); e != api.OK {
			return [api.Facts]int{}, false, e
		}
	}
	x, e := choicesFor(append(conditionsOf(a), conditionsOf(b)...))
	if e != api.OK {
		return [api.Facts]int{}, false, e
	}
	f, is := x.always(func(f *[api.Facts]int) bool { return nameGiven(a, f) == nameGiven(b, f) })
	return f, is, api.OK
}
