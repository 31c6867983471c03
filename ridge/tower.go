package ridge

import (
	"cmp"
	"math/bits"
	"slices"

	"firetower/api"
)

// Seen returns the places that a tower sees, at a height above the ground.
func Seen(c api.Country, id, rise int) ([]api.Place, api.Errno) {
	t, e := checkTower(c, id)
	if e != api.OK {
		return nil, e
	}
	if !validTall(rise) {
		return nil, api.ErrArg
	}
	var out []api.Place
	for _, p := range places(c.Map) {
		if free(c.Map, t.At, t.Height, p, rise) {
			out = append(out, p)
		}
	}
	return out, api.OK
}

// checkTower returns the tower with an ID, or the first error of a country, or that there is no such tower.
func checkTower(c api.Country, id int) (api.Tower, api.Errno) {
	if e := Check(c); e != api.OK {
		return api.Tower{}, e
	}
	t, ok := towerOf(c.Towers, id)
	if !ok {
		return api.Tower{}, api.ErrNone
	}
	return t, api.OK
}

// Dead returns the places that a tower does not see.
func Dead(c api.Country, id, rise int) ([]api.Place, api.Errno) {
	seen, e := Seen(c, id, rise)
	if e != api.OK {
		return nil, e
	}
	var out []api.Place
	for _, p := range places(c.Map) {
		// Both are in one order, so that the next place that is seen is the first one that is left.
		if len(seen) > 0 && seen[0] == p {
			seen = seen[1:]
		} else {
			out = append(out, p)
		}
	}
	return out, api.OK
}

// Far returns how far an eye sees in a minute.
func Far(c api.Country, tick int) (int, api.Errno) {
	if e := Check(c); e != api.OK {
		return 0, e
	}
	if !validTick(tick) {
		return 0, api.ErrArg
	}
	return farAt(c, tick), api.OK
}

func farAt(c api.Country, tick int) int {
	for _, h := range c.Haze {
		if within(tick, h.From, h.To) {
			return h.Far
		}
	}
	return api.MaxFar
}

// Sees reports whether a tower sees a place in a minute, at a height above the ground.
func Sees(c api.Country, id int, p api.Place, rise, tick int) (bool, api.Errno) {
	t, e := checkTower(c, id)
	if e != api.OK {
		return false, e
	}
	if !On(c.Map, p) || !validTall(rise) || !validTick(tick) {
		return false, api.ErrArg
	}
	return sees(c.Map, t, p, rise, farAt(c, tick)), api.OK
}

// sees reports whether a tower sees a place when an eye sees so far.
func sees(m api.Map, t api.Tower, p api.Place, rise, far int) bool {
	x, y := p.X-t.At.X, p.Y-t.At.Y
	return x*x+y*y <= far*far && free(m, t.At, t.Height, p, rise)
}

// Watchers returns the towers that see a place in a minute.
func Watchers(c api.Country, p api.Place, rise, tick int) ([]int, api.Errno) {
	if e := Check(c); e != api.OK {
		return nil, e
	}
	if !On(c.Map, p) || !validTall(rise) || !validTick(tick) {
		return nil, api.ErrArg
	}
	l := ordered(c.Towers)
	return idsOf(l, watching(c.Map, l, p, rise, farAt(c, tick))), api.OK
}

// ordered returns towers by their IDs.
func ordered(l []api.Tower) []api.Tower {
	out := slices.Clone(l)
	slices.SortFunc(out, func(s, t api.Tower) int { return cmp.Compare(s.ID, t.ID) })
	return out
}

// set is some of a list of towers: it has the bit i if the tower with the index i is one of them.
type set uint

func only(i int) set { return 1 << i }

func (s set) has(i int) bool { return s&only(i) != 0 }

// idsOf returns the IDs of those of some towers that are in a set.
func idsOf(l []api.Tower, s set) []int {
	var out []int
	for i, t := range l {
		if s.has(i) {
			out = append(out, t.ID)
		}
	}
	return out
}

// watching returns those of some towers that see a place when an eye sees so far.
func watching(m api.Map, l []api.Tower, p api.Place, rise, far int) set {
	var out set
	for i, t := range l {
		if sees(m, t, p, rise, far) {
			out |= only(i)
		}
	}
	return out
}

// watched returns, for each place of the map, those of the towers, by their IDs, that see it in a minute.
func watched(c api.Country, rise, tick int) []set {
	l, far := ordered(c.Towers), farAt(c, tick)
	var out []set
	for _, p := range places(c.Map) {
		out = append(out, watching(c.Map, l, p, rise, far))
	}
	return out
}

// checkView returns the first error of a country, of a height above the ground, and of a minute.
func checkView(c api.Country, rise, tick int) api.Errno {
	if e := Check(c); e != api.OK {
		return e
	}
	if !validTall(rise) || !validTick(tick) {
		return api.ErrArg
	}
	return api.OK
}

// Covered returns the places that at least so many towers see in a minute.
func Covered(c api.Country, rise, tick, towers int) ([]api.Place, api.Errno) {
	if e := checkView(c, rise, tick); e != api.OK {
		return nil, e
	}
	if !within(towers, 1, api.MaxTowers) {
		return nil, api.ErrArg
	}
	var out []api.Place
	for i, s := range watched(c, rise, tick) {
		if bits.OnesCount(uint(s)) >= towers {
			out = append(out, placeAt(c.Map, i))
		}
	}
	return out, api.OK
}

// Links returns the pairs of towers whose tops see each other.
func Links(c api.Country) ([][2]int, api.Errno) {
	if e := Check(c); e != api.OK {
		return nil, e
	}
	l := ordered(c.Towers)
	var out [][2]int
	for i, s := range l {
		for _, t := range l[i+1:] {
			if free(c.Map, s.At, s.Height, t.At, t.Height) {
				out = append(out, [2]int{s.ID, t.ID})
			}
		}
	}
	return out, api.OK
}
