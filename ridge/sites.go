package ridge

import (
	"iter"
	"slices"

	"firetower/api"
)

// Best returns the place where a further tower sees the most places that no tower sees.
func Best(c api.Country, height, rise, tick int) (api.Place, int, api.Errno) {
	if e := checkView(c, rise, tick); e != api.OK {
		return api.Place{}, 0, e
	}
	if !validTall(height) {
		return api.Place{}, 0, api.ErrArg
	}
	if len(c.Map.Ground) > api.MaxSites {
		return api.Place{}, 0, api.ErrLimit
	}
	dark, far := unwatched(c, rise, tick), farAt(c, tick)
	var gains []int
	for _, p := range places(c.Map) {
		gain := 0
		for _, q := range dark {
			if sees(c.Map, api.Tower{At: p, Height: height}, q, rise, far) {
				gain++
			}
		}
		gains = append(gains, gain)
	}
	most := greatest(0, gains)
	return placeAt(c.Map, slices.Index(gains, most)), most, api.OK
}

// unwatched returns the places that no tower sees in a minute.
func unwatched(c api.Country, rise, tick int) []api.Place {
	var out []api.Place
	for i, s := range watched(c, rise, tick) {
		if s == 0 {
			out = append(out, placeAt(c.Map, i))
		}
	}
	return out
}

// Spare returns the towers without each of which the others see all places that all of them see.
func Spare(c api.Country, rise, tick int) ([]int, api.Errno) {
	if e := checkView(c, rise, tick); e != api.OK {
		return nil, e
	}
	l := ordered(c.Towers)
	views := watched(c, rise, tick)
	var spare set
	for i := range l {
		if !slices.Contains(views, only(i)) {
			spare |= only(i)
		}
	}
	return idsOf(l, spare), api.OK
}

// Fewest returns as few towers as possible that see all places that all of them see.
func Fewest(c api.Country, rise, tick int) ([]int, api.Errno) {
	if e := checkView(c, rise, tick); e != api.OK {
		return nil, e
	}
	views := watched(c, rise, tick)
	for s := range sets(len(c.Towers)) {
		if meets(s, views) {
			return idsOf(ordered(c.Towers), s), api.OK
		}
	}
	return nil, api.OK
}

// meets reports whether a set has a tower of each of some others that are not empty.
func meets(s set, others []set) bool {
	for _, o := range others {
		if o != 0 && s&o == 0 {
			return false
		}
	}
	return true
}

// sets goes through the sets of n towers: those of fewer towers come first, and of as many those whose lists are less.
func sets(n int) iter.Seq[set] {
	return func(yield func(set) bool) {
		// extend goes through the sets that have more towers than s, as many as left, all of them from the index next on.
		var extend func(s set, next, left int) bool
		extend = func(s set, next, left int) bool {
			if left == 0 {
				return yield(s)
			}
			for i := next; i < n; i++ {
				if !extend(s|only(i), i+1, left-1) {
					return false
				}
			}
			return true
		}
		for size := range n + 1 {
			if !extend(0, 0, size) {
				return
			}
		}
	}
}
