package relay

import (
	"slices"

	"firetower/api"
)

// arrivals is for each station the first minute at which a word can be there (-1 for never), and the hop by which it comes there then.
type arrivals struct {
	at []int
	by []api.Hop
}

// Earliest returns for each station the first minute at which a word can be there; -1 for never.
func Earliest(n api.Net, from, tick int) ([]int, api.Errno) {
	if e := checkStart(n, from, tick); e != api.OK {
		return nil, e
	}
	return spread(n, from, tick).at, api.OK
}

// checkStart returns the first error of a net, and then of a station of it and a minute.
func checkStart(n api.Net, a, tick int) api.Errno {
	if e := Check(n); e != api.OK {
		return e
	}
	if !isStation(n, a) || tick < 0 || tick > api.MaxTick {
		return api.ErrArg
	}
	return api.OK
}

// spread lets a word go over all links until it is nowhere earlier any more. Who comes earlier to a link can leave it as early, so that only the first minute at a station matters.
func spread(n api.Net, from, tick int) arrivals {
	a := arrivals{make([]int, n.Stations), make([]api.Hop, n.Stations)}
	earlier := make([]func(int) bool, n.Stations)
	for s := range n.Stations {
		a.at[s] = -1
		earlier[s] = least()
	}
	a.at[from] = tick
	earlier[from](tick)
	for again := true; again; {
		again = false
		for i, l := range n.Links {
			if a.at[l.From] < 0 {
				continue
			}
			d, ok := Leave(l, a.at[l.From])
			if ok && earlier[l.To](d+l.Delay) {
				a.at[l.To], a.by[l.To] = d+l.Delay, api.Hop{Link: i, Tick: d}
				again = true
			}
		}
	}
	return a
}

// least returns a function that keeps the least of the minutes that it is told, and says whether a minute is less than all before it.
func least() func(minute int) bool {
	kept, some := 0, false
	return func(minute int) bool {
		if some && minute >= kept {
			return false
		}
		kept, some = minute, true
		return true
	}
}

// Latest returns for each station the last minute at which a word must leave it to be at a station up to a minute; -1 for never.
func Latest(n api.Net, to, tick int) ([]int, api.Errno) {
	if e := checkStart(n, to, tick); e != api.OK {
		return nil, e
	}
	at := make([]int, n.Stations)
	for s := range n.Stations {
		at[s] = -1
	}
	at[to] = tick
	for again := true; again; {
		again = false
		for _, l := range n.Links {
			// Where a word can never be in time, no link arrives up to the minute -1.
			d, ok := Last(l, at[l.To])
			if ok && d > at[l.From] {
				at[l.From] = d
				again = true
			}
		}
	}
	return at, api.OK
}

// Way returns the hops of a word that arrives as early as possible.
func Way(n api.Net, from, to, tick int) ([]api.Hop, api.Errno) {
	if e := checkWay(n, from, to, tick); e != api.OK {
		return nil, e
	}
	a := spread(n, from, tick)
	if a.at[to] < 0 {
		return nil, api.ErrNone
	}
	var out []api.Hop
	// Each hop takes time, so that going back comes to ever earlier minutes, and ends at the first station.
	for s := to; s != from; s = n.Links[a.by[s].Link].From {
		out = append(out, a.by[s])
	}
	slices.Reverse(out)
	return out, api.OK
}

// checkWay returns the first error of a net, and then of two stations of it and a minute.
func checkWay(n api.Net, from, to, tick int) api.Errno {
	if e := checkStart(n, from, tick); e != api.OK {
		return e
	}
	if !isStation(n, to) {
		return api.ErrArg
	}
	return api.OK
}

// CheckWay returns the minute at which a word that uses hops arrives.
func CheckWay(n api.Net, from, to, tick int, l []api.Hop) (int, api.Errno) {
	if e := checkWay(n, from, to, tick); e != api.OK {
		return 0, e
	}
	if len(l) > api.MaxLinks {
		return 0, api.ErrLimit
	}
	at, now := from, tick
	for _, h := range l {
		if h.Link < 0 || h.Link >= len(n.Links) {
			return 0, api.ErrProof
		}
		k := n.Links[h.Link]
		if k.From != at || h.Tick < now || !canLeave(k, h.Tick) {
			return 0, api.ErrProof
		}
		at, now = k.To, h.Tick+k.Delay
	}
	if at != to {
		return 0, api.ErrProof
	}
	return now, api.OK
}

// canLeave says whether a right link can be left just at a minute.
func canLeave(l api.Link, tick int) bool {
	d, ok := Leave(l, tick)
	return ok && d == tick
}

// CheckBounds returns OK if numbers prove that no word can be at a station earlier than its number.
func CheckBounds(n api.Net, from, tick int, l []int) api.Errno {
	if e := checkStart(n, from, tick); e != api.OK {
		return e
	}
	if len(l) != n.Stations || l[from] < 0 || l[from] > tick {
		return api.ErrProof
	}
	for _, x := range l {
		if x < -1 || x > api.MaxTick {
			return api.ErrProof
		}
	}
	for _, k := range n.Links {
		if l[k.From] < 0 {
			continue
		}
		d, ok := Leave(k, l[k.From])
		if ok && (l[k.To] < 0 || l[k.To] > d+k.Delay) {
			return api.ErrProof
		}
	}
	return api.OK
}

// Needed returns the links without each of which a word would arrive later.
func Needed(n api.Net, from, to, tick int) ([]int, api.Errno) {
	if e := checkWay(n, from, to, tick); e != api.OK {
		return nil, e
	}
	first := spread(n, from, tick).at[to]
	if first < 0 {
		return nil, api.ErrNone
	}
	var out []int
	for i := range n.Links {
		// Never earlier without a link: another minute is a later one, or none.
		if spread(without(n, i), from, tick).at[to] != first {
			out = append(out, i)
		}
	}
	return out, api.OK
}

// without returns a net with a link that is never open.
func without(n api.Net, i int) api.Net {
	l := slices.Clone(n.Links)
	l[i].Open = nil
	return api.Net{Stations: n.Stations, Links: l}
}
