package crew

import "firetower/api"

// start returns when a crew starts that is sent at a minute.
func start(c api.Crew, tick int) int { return max(c.Free, tick) }

// steps returns how many steps two places are apart.
func steps(a, b api.Place) int {
	return max(a.X-b.X, b.X-a.X, a.Y-b.Y, b.Y-a.Y)
}

// reached returns when all places of a cell have surely been reached from the places of trails.
func reached(a []api.Arrival, cell []api.Place) int {
	last := 0
	for _, p := range cell {
		last = max(last, first(a, p))
	}
	return last
}

// first returns when a place has surely been reached. There is a way to it from where the crew is, at least.
func first(a []api.Arrival, p api.Place) int {
	best := api.MaxMinutes
	for _, x := range a {
		if x.Tick >= 0 {
			best = min(best, x.Tick+api.Rough*steps(x.At, p))
		}
	}
	return best
}

// Reach returns when a crew has surely reached each place where a smoke can stand.
func Reach(l []api.Trail, c api.Crew, b api.Blaze, tick int) (int, api.Errno) {
	if e := Check(l); e != api.OK {
		return 0, e
	}
	if checkCrew(c) != api.OK || checkBlaze(b) != api.OK || !isTick(tick) {
		return 0, api.ErrArg
	}
	return reached(arrivals(l, c.At, start(c, tick)), b.Cell), api.OK
}

// Times returns this for each crew and smoke; -1 where the smoke is not proved.
func Times(l []api.Trail, crews []api.Crew, blazes []api.Blaze, tick int) ([][]int, api.Errno) {
	if e := checkTimes(l, crews, blazes, tick); e != api.OK {
		return nil, e
	}
	var out [][]int
	for _, c := range crews {
		a := arrivals(l, c.At, start(c, tick))
		var row []int
		for _, b := range blazes {
			if b.Proved {
				row = append(row, reached(a, b.Cell))
			} else {
				row = append(row, -1)
			}
		}
		out = append(out, row)
	}
	return out, api.OK
}

func checkTimes(l []api.Trail, crews []api.Crew, blazes []api.Blaze, tick int) api.Errno {
	if e := Check(l); e != api.OK {
		return e
	}
	// Both limits come first; that of the crews is the first thing that checkCrews looks at.
	if len(blazes) > api.MaxSmokes {
		return api.ErrLimit
	}
	if e := checkCrews(crews); e != api.OK {
		return e
	}
	if e := checkEach(blazes, checkBlaze, blazeID); e != api.OK {
		return e
	}
	if !isTick(tick) {
		return api.ErrArg
	}
	return api.OK
}
