package circle

import "firetower/api"

// quarter is how many divisions lie on a side of the square, from one corner to the next one.
const quarter = 2 * api.Radius

// turn returns the division that a number is, in turns of all divisions.
func turn(n int) int { return (n%api.Divisions + api.Divisions) % api.Divisions }

func turnedLeft(p api.Place) api.Place { return api.Place{X: -p.Y, Y: p.X} }

func turnedRight(p api.Place) api.Place { return api.Place{X: p.Y, Y: -p.X} }

// sides returns for each side of the square, turning left from the one in the east, the point that lies some divisions to the left of its middle.
func sides() [4]func(along int) api.Place {
	east := func(along int) api.Place { return api.Place{X: api.Radius, Y: along} }
	north := func(along int) api.Place { return turnedLeft(east(along)) }
	west := func(along int) api.Place { return turnedLeft(north(along)) }
	south := func(along int) api.Place { return turnedLeft(west(along)) }
	return [4]func(along int) api.Place{east, north, west, south}
}

// Vector returns the direction of a division, as a vector to the edge of the square.
func Vector(division int) api.Place {
	// The first side begins half a side to the right of the division 0; the rest comes first, as the sum can be beyond an int.
	n := turn(division%api.Divisions + api.Radius)
	return sides()[n/quarter](n%quarter - api.Radius)
}

// bearing is where a direction meets the square, rounded down and up. This is all that needs to be known of it, since wedges and readings begin and end at divisions.
type bearing struct{ down, up int }

// bearingOf returns the bearing of the direction from one place to another one, and whether they are two places of the map.
func bearingOf(from, to api.Place) (bearing, bool) {
	if !onMap(from) || !onMap(to) || from == to {
		return bearing{}, false
	}
	v, middle := api.Place{X: to.X - from.X, Y: to.Y - from.Y}, 0
	for v.Y > v.X || -v.Y > v.X {
		v, middle = turnedRight(v), middle+quarter
	}
	along := api.Radius*v.Y + middle*v.X
	if along < 0 {
		along += api.Divisions * v.X
	}
	return bearing{along / v.X, (along + v.X - 1) / v.X}, true
}

// Division returns the last division that is not beyond the direction from one place to another one.
func Division(from, to api.Place) (int, bool) {
	b, ok := bearingOf(from, to)
	return b.down, ok
}
