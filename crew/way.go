package crew

import (
	"slices"

	"firetower/api"
)

// lastEntry is the last minute at which a stage can begin, and the greatest one of an arrival that is checked.
const lastEntry = 1 << 26

// journey is the least minutes at which somebody is surely at places, and the last stages by which they are there then. Places where they never are have neither.
type journey struct {
	at map[api.Place]int
	by map[api.Place]leg
}

// leg is a stage, and where it begins.
type leg struct {
	api.Stage
	from api.Place
}

// travel goes over all trails until somebody is nowhere surely earlier any more. Who is earlier at a trail can enter it as early, so that only the least minute at a place matters.
func travel(l []api.Trail, from api.Place, tick int) journey {
	j := journey{map[api.Place]int{from: tick}, map[api.Place]leg{}}
	for again := true; again; {
		again = false
		for t := range ends(l) {
			now, is := j.at[t.A]
			if !is {
				continue
			}
			there, enter := passed(t, now)
			if before, is := j.at[t.B]; is && before <= there {
				continue
			}
			j.at[t.B] = there
			j.by[t.B] = leg{api.Stage{Trail: t.ID, Tick: enter}, t.A}
			again = true
		}
	}
	return j
}

// arrivals returns the least minutes at which somebody is surely at the places of trails; -1 where they never are.
func arrivals(l []api.Trail, from api.Place, tick int) []api.Arrival {
	j := travel(l, from, tick)
	var out []api.Arrival
	for _, p := range places(l, from) {
		minute, is := j.at[p]
		if !is {
			minute = -1
		}
		out = append(out, api.Arrival{At: p, Tick: minute})
	}
	return out
}

// Surest returns for each place of the trails when a crew is there at the latest, on its best way.
func Surest(l []api.Trail, from api.Place, tick int) ([]api.Arrival, api.Errno) {
	if e := checkStart(l, tick, from); e != api.OK {
		return nil, e
	}
	return arrivals(l, from, tick), api.OK
}

// Soonest returns for each place of the trails when a crew can be there at the soonest.
func Soonest(l []api.Trail, from api.Place, tick int) ([]api.Arrival, api.Errno) {
	if e := checkStart(l, tick, from); e != api.OK {
		return nil, e
	}
	fast := slices.Clone(l)
	for i, t := range fast {
		fast[i].Slow = t.Fast
	}
	return arrivals(fast, from, tick), api.OK
}

// Way returns the trails of a best way, with the latest minutes at which they are entered.
func Way(l []api.Trail, from, to api.Place, tick int) ([]api.Stage, api.Errno) {
	if e := checkStart(l, tick, from, to); e != api.OK {
		return nil, e
	}
	j := travel(l, from, tick)
	if _, is := j.at[to]; !is {
		return nil, api.ErrNone
	}
	var out []api.Stage
	// Each stage takes time, so that going back comes to ever earlier minutes, and ends where the way begins.
	for p := to; p != from; p = j.by[p].from {
		out = append(out, j.by[p].Stage)
	}
	slices.Reverse(out)
	return out, api.OK
}

// CheckWay returns when a crew is there at the latest that uses some trails.
func CheckWay(l []api.Trail, from, to api.Place, tick int, w []api.Stage) (int, api.Errno) {
	if e := checkStart(l, tick, from, to); e != api.OK {
		return 0, e
	}
	if len(w) > api.MaxTrails {
		return 0, api.ErrLimit
	}
	at, now := from, tick
	for _, s := range w {
		t, is := entered(l, s.Trail, at)
		if !is || !within(s.Tick, now, lastEntry) {
			return 0, api.ErrProof
		}
		there, enter := passed(t, s.Tick)
		if enter != s.Tick {
			return 0, api.ErrProof
		}
		at, now = t.B, there
	}
	if at != to {
		return 0, api.ErrProof
	}
	return now, api.OK
}

// entered returns the trail with an ID as it is entered at a place, and whether it can be entered there.
func entered(l []api.Trail, id int, at api.Place) (api.Trail, bool) {
	for t := range ends(l) {
		if t.ID == id && t.A == at {
			return t, true
		}
	}
	return api.Trail{}, false
}

// CheckArrivals returns OK if minutes prove that no crew is surely at a place earlier.
func CheckArrivals(l []api.Trail, from api.Place, tick int, a []api.Arrival) api.Errno {
	if e := checkStart(l, tick, from); e != api.OK {
		return e
	}
	all := places(l, from)
	if len(a) != len(all) {
		return api.ErrProof
	}
	at := map[api.Place]int{}
	for i, x := range a {
		if x.At != all[i] || !within(x.Tick, -1, lastEntry) {
			return api.ErrProof
		}
		at[x.At] = x.Tick
	}
	if !within(at[from], 0, tick) {
		return api.ErrProof
	}
	for t := range ends(l) {
		if at[t.A] < 0 {
			continue
		}
		if there, _ := passed(t, at[t.A]); !within(at[t.B], 0, there) {
			return api.ErrProof
		}
	}
	return api.OK
}

// Needed returns the trails without each of which a crew is there later.
func Needed(l []api.Trail, from, to api.Place, tick int) ([]int, api.Errno) {
	if e := checkStart(l, tick, from, to); e != api.OK {
		return nil, e
	}
	best, is := travel(l, from, tick).at[to]
	if !is {
		return nil, api.ErrNone
	}
	var out []int
	for i, t := range l {
		// Never earlier without a trail: another minute is a later one, or none.
		minute, is := travel(slices.Concat(l[:i], l[i+1:]), from, tick).at[to]
		if !is || minute != best {
			out = append(out, t.ID)
		}
	}
	slices.Sort(out)
	return out, api.OK
}
