package ridge

import (
	"cmp"
	"iter"

	"firetower/api"
)

// meeting is what a line meets at a crossing. The line goes along the axis by so many steps; ground is the height there, multiplied by these, so that it is a whole number.
type meeting struct {
	cross         api.Crossing
	steps, ground int
}

// part returns a number between those at the beginning and the end of a line, as far from both as the crossing is, multiplied by the steps.
func (x meeting) part(first, last int) int {
	return (x.steps-x.cross.Step)*first + x.cross.Step*last
}

// axes returns the coordinates of a place, by the axis along which they grow.
func axes(p api.Place) [2]int { return [2]int{p.X, p.Y} }

// crossings goes through what the line between two places meets, in the order of the parts of the line.
func crossings(m api.Map, a, b api.Place) iter.Seq[meeting] {
	from, to := axes(a), axes(b)
	var steps [2]int
	for i := range steps {
		steps[i] = max(to[i]-from[i], from[i]-to[i])
	}
	return func(yield func(meeting) bool) {
		next := [2]int{1, 1}
		for next[0] < steps[0] || next[1] < steps[1] {
			// A direction in which there is no more to come has its next part behind all others.
			axis := 0
			if next[1]*steps[0] < next[0]*steps[1] {
				axis = 1
			}
			if !yield(meet(m, from, to, steps[axis], api.Crossing{Axis: axis, Step: next[axis]})) {
				return
			}
			next[axis]++
		}
	}
}

// meet returns what a line meets at a crossing: it lies between the places low and high, which are one if the line meets it.
func meet(m api.Map, from, to [2]int, steps int, cross api.Crossing) meeting {
	out := meeting{cross: cross, steps: steps}
	var low, high [2]int
	beyond := 0
	for i := range low {
		at := out.part(from[i], to[i])
		low[i], high[i] = at/steps, (at+steps-1)/steps
		beyond += at % steps // 0 for the axis: a crossing lies in its column, or row
	}
	first := heightAt(m, api.Place{X: low[0], Y: low[1]})
	second := heightAt(m, api.Place{X: high[0], Y: high[1]})
	out.ground = (steps-beyond)*first + beyond*second
	return out
}

// validLine reports whether a map, the places of a line and the heights above them that are given are right.
func validLine(m api.Map, a, b api.Place, heights ...int) bool {
	if !validMap(m) || !On(m, a) || !On(m, b) {
		return false
	}
	for _, n := range heights {
		if !validTall(n) {
			return false
		}
	}
	return true
}

// Line returns what the line between two places meets, in order.
func Line(m api.Map, a, b api.Place) ([]api.Profile, api.Errno) {
	if !validLine(m, a, b) {
		return nil, api.ErrArg
	}
	var out []api.Profile
	for x := range crossings(m, a, b) {
		out = append(out, api.Profile{Cross: x.cross, Along: lowest(x.cross.Step, x.steps), Ground: lowest(x.ground, x.steps)})
	}
	return out, api.OK
}

// blocks goes through the crossings of a line at which the ground is higher than the line, in order.
func blocks(m api.Map, a api.Place, up int, b api.Place, rise int) iter.Seq[api.Crossing] {
	first, last := heightAt(m, a)+up, heightAt(m, b)+rise
	return func(yield func(api.Crossing) bool) {
		for x := range crossings(m, a, b) {
			if x.ground > x.part(first, last) && !yield(x.cross) {
				return
			}
		}
	}
}

// free reports whether a line is free.
func free(m api.Map, a api.Place, up int, b api.Place, rise int) bool {
	for range blocks(m, a, up, b, rise) {
		return false
	}
	return true
}

// Clear reports whether the line from a height above a place to a height above another one is free.
func Clear(m api.Map, a api.Place, up int, b api.Place, rise int) (bool, api.Errno) {
	if !validLine(m, a, b, up, rise) {
		return false, api.ErrArg
	}
	return free(m, a, up, b, rise), api.OK
}

// Block returns the first crossing at which the ground is above this line.
func Block(m api.Map, a api.Place, up int, b api.Place, rise int) (api.Crossing, bool, api.Errno) {
	if !validLine(m, a, b, up, rise) {
		return api.Crossing{}, false, api.ErrArg
	}
	for x := range blocks(m, a, up, b, rise) {
		return x, true, api.OK
	}
	return api.Crossing{}, false, api.OK
}

// CheckBlock returns OK if the ground is above this line at a crossing.
func CheckBlock(m api.Map, a api.Place, up int, b api.Place, rise int, x api.Crossing) api.Errno {
	if !validLine(m, a, b, up, rise) {
		return api.ErrArg
	}
	for y := range blocks(m, a, up, b, rise) {
		if x == y {
			return api.OK
		}
	}
	return api.ErrProof
}

// Needed returns the least height above a place that is seen from a height above another one.
func Needed(m api.Map, a api.Place, up int, b api.Place) (int, api.Errno) {
	if !validLine(m, a, b, up) {
		return 0, api.ErrArg
	}
	return needed(m, a, up, b), api.OK
}

// Tall returns the least height of a tower at a place from which another place is seen.
func Tall(m api.Map, a, b api.Place, rise int) (int, api.Errno) {
	if !validLine(m, a, b, rise) {
		return 0, api.ErrArg
	}
	// A line is free in both directions, or in none.
	return needed(m, b, rise, a), api.OK
}

// needed returns the least height above b with which the line from a and a height above it is free.
func needed(m api.Map, a api.Place, up int, b api.Place) int {
	first, last := heightAt(m, a)+up, heightAt(m, b)
	var heights []int
	for x := range crossings(m, a, b) {
		// A height above b lifts the line at the crossing by Step / steps of it.
		missing := x.ground - x.part(first, last)
		heights = append(heights, (missing+x.cross.Step-1)/x.cross.Step)
	}
	return greatest(0, heights)
}

// greatest returns the greatest one of a number and some others.
func greatest[T cmp.Ordered](out T, others []T) T {
	for _, n := range others {
		out = max(out, n)
	}
	return out
}
