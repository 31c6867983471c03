package ridge_test

import (
	"math/big"
	"slices"
	"testing"

	"firetower/api"
	"firetower/ridge"
)

// What follows is written from the chapter alone, with exact fractions of any size, so that the package can be held against it.

// example returns the map of the chapter's examples.
func example() api.Map {
	return api.Map{Wide: 5, High: 3, Ground: []int{0, 0, 10, 0, 0, 0, 0, 20, 0, 0, 0, 0, 30, 0, 0}}
}

func at(x, y int) api.Place { return api.Place{X: x, Y: y} }

// flat returns a map of one height.
func flat(wide, high, height int) api.Map {
	return api.Map{Wide: wide, High: high, Ground: slices.Repeat([]int{height}, wide*high)}
}

func whole(n int) *big.Rat { return big.NewRat(int64(n), 1) }

// mixed returns (1 - t) a + t b.
func mixed(t, a, b *big.Rat) *big.Rat {
	return new(big.Rat).Add(a, new(big.Rat).Mul(t, new(big.Rat).Sub(b, a)))
}

func ground(m api.Map, x, y int) int { return m.Ground[y*m.Wide+x] }

func height(m api.Map, p api.Place) int { return ground(m, p.X, p.Y) }

// met is a crossing, its part of the line, and the height of the ground there.
type met struct {
	cross     api.Crossing
	t, ground *big.Rat
}

// columns returns what a line meets at columns, in order.
func columns(m api.Map, a, b api.Place) []met {
	n := max(b.X-a.X, a.X-b.X)
	var out []met
	for k := 1; k < n; k++ {
		t := big.NewRat(int64(k), int64(n))
		x := a.X + k
		if b.X < a.X {
			x = a.X - k
		}
		y := mixed(t, whole(a.Y), whole(b.Y))
		low := int(new(big.Int).Div(y.Num(), y.Denom()).Int64())
		g := whole(ground(m, x, low))
		if !y.IsInt() {
			g = mixed(new(big.Rat).Sub(y, whole(low)), g, whole(ground(m, x, low+1)))
		}
		out = append(out, met{api.Crossing{Step: k}, t, g})
	}
	return out
}

// turned returns the map whose columns are the rows of another one.
func turned(m api.Map) api.Map {
	out := api.Map{Wide: m.High, High: m.Wide}
	for x := range m.Wide {
		for y := range m.High {
			out.Ground = append(out.Ground, ground(m, x, y))
		}
	}
	return out
}

func turnedPlace(p api.Place) api.Place { return at(p.Y, p.X) }

// metBy returns all that a line meets, in order.
func metBy(m api.Map, a, b api.Place) []met {
	out := columns(m, a, b)
	for _, x := range columns(turned(m), turnedPlace(a), turnedPlace(b)) {
		x.cross.Axis = 1
		out = append(out, x)
	}
	slices.SortStableFunc(out, func(x, y met) int { return x.t.Cmp(y.t) })
	return out
}

// above returns the sign of the ground's height less that of the line.
func (x met) above(m api.Map, a api.Place, up int, b api.Place, rise int) int {
	return x.ground.Cmp(mixed(x.t, whole(height(m, a)+up), whole(height(m, b)+rise)))
}

// plainBlocks returns the crossings at which the ground is higher than a line.
func plainBlocks(m api.Map, a api.Place, up int, b api.Place, rise int) []api.Crossing {
	var out []api.Crossing
	for _, x := range metBy(m, a, b) {
		if x.above(m, a, up, b, rise) > 0 {
			out = append(out, x.cross)
		}
	}
	return out
}

func plainFree(m api.Map, a api.Place, up int, b api.Place, rise int) bool {
	return len(plainBlocks(m, a, up, b, rise)) == 0
}

// touches reports whether the ground is somewhere as high as a line.
func touches(m api.Map, a api.Place, up int, b api.Place, rise int) bool {
	return slices.ContainsFunc(metBy(m, a, b), func(x met) bool { return x.above(m, a, up, b, rise) == 0 })
}

// plainNeeded returns the least height above b with which a line is free.
func plainNeeded(m api.Map, a api.Place, up int, b api.Place) int {
	out := 0
	for _, x := range metBy(m, a, b) {
		missing := new(big.Rat).Sub(x.ground, mixed(x.t, whole(height(m, a)+up), whole(height(m, b))))
		missing.Quo(missing, x.t)
		for whole(out).Cmp(missing) < 0 {
			out += max(1, int(missing.Num().Int64()/missing.Denom().Int64())-out)
		}
	}
	return out
}

func fractionOf(r *big.Rat) api.Fraction {
	return api.Fraction{Num: int(r.Num().Int64()), Den: int(r.Denom().Int64())}
}

func rat(f api.Fraction) *big.Rat { return big.NewRat(int64(f.Num), int64(f.Den)) }

func plainLine(m api.Map, a, b api.Place) []api.Profile {
	var out []api.Profile
	for _, x := range metBy(m, a, b) {
		out = append(out, api.Profile{Cross: x.cross, Along: fractionOf(x.t), Ground: fractionOf(x.ground)})
	}
	return out
}

// allPlaces returns the places of a map by Y, then by X.
func allPlaces(m api.Map) []api.Place {
	var out []api.Place
	for y := range m.High {
		for x := range m.Wide {
			out = append(out, at(x, y))
		}
	}
	return out
}

// chosen returns the places of a map for which something is so.
func chosen(m api.Map, is func(api.Place) bool) []api.Place {
	return slices.DeleteFunc(allPlaces(m), func(p api.Place) bool { return !is(p) })
}

func plainFar(c api.Country, tick int) int {
	for _, h := range c.Haze {
		if h.From <= tick && tick <= h.To {
			return h.Far
		}
	}
	return 100
}

func plainSees(c api.Country, t api.Tower, p api.Place, rise, tick int) bool {
	x, y, far := p.X-t.At.X, p.Y-t.At.Y, plainFar(c, tick)
	return x*x+y*y <= far*far && plainFree(c.Map, t.At, t.Height, p, rise)
}

// plainWatchers returns the IDs of towers that see a place in a minute.
func plainWatchers(c api.Country, p api.Place, rise, tick int) []int {
	var out []int
	for _, t := range c.Towers {
		if plainSees(c, t, p, rise, tick) {
			out = append(out, t.ID)
		}
	}
	slices.Sort(out)
	return out
}

// together returns the places that at least one tower sees in a minute.
func together(c api.Country, rise, tick int) []api.Place {
	return chosen(c.Map, func(p api.Place) bool { return len(plainWatchers(c, p, rise, tick)) > 0 })
}

// ids returns the IDs of all towers, in order.
func ids(c api.Country) []int {
	var out []int
	for _, t := range c.Towers {
		out = append(out, t.ID)
	}
	slices.Sort(out)
	return out
}

// with returns a country with only the towers that have some IDs.
func with(c api.Country, l []int) api.Country {
	c.Towers = slices.DeleteFunc(slices.Clone(c.Towers), func(t api.Tower) bool { return !slices.Contains(l, t.ID) })
	return c
}

// without returns a country without a tower.
func without(c api.Country, id int) api.Country {
	return with(c, slices.DeleteFunc(ids(c), func(n int) bool { return n == id }))
}

// views returns for each place the IDs of the towers that see it in a minute.
func views(c api.Country, rise, tick int) [][]int {
	var out [][]int
	for _, p := range allPlaces(c.Map) {
		out = append(out, plainWatchers(c, p, rise, tick))
	}
	return out
}

// enough reports whether towers see together what all towers see.
func enough(views [][]int, l []int) bool {
	for _, v := range views {
		if len(v) > 0 && !slices.ContainsFunc(v, func(id int) bool { return slices.Contains(l, id) }) {
			return false
		}
	}
	return true
}

// choices returns all choices of some IDs, each one in order.
func choices(l []int) [][]int {
	var out [][]int
	for n := range 1 << len(l) {
		var some []int
		for i, id := range l {
			if n>>i&1 == 1 {
				some = append(some, id)
			}
		}
		out = append(out, some)
	}
	return out
}

func plainSpare(c api.Country, rise, tick int) []int {
	v := views(c, rise, tick)
	return slices.DeleteFunc(ids(c), func(id int) bool { return !enough(v, ids(without(c, id))) })
}

func plainFewest(c api.Country, rise, tick int) []int {
	v := views(c, rise, tick)
	best := ids(c)
	for _, l := range choices(ids(c)) {
		if (len(l) < len(best) || len(l) == len(best) && slices.Compare(l, best) < 0) && enough(v, l) {
			best = l
		}
	}
	return best
}

// gain returns how many places that no tower sees in a minute a further one sees.
func gain(c api.Country, t api.Tower, rise, tick int) int {
	n := 0
	for i, v := range views(c, rise, tick) {
		if len(v) == 0 && plainSees(c, t, allPlaces(c.Map)[i], rise, tick) {
			n++
		}
	}
	return n
}

func plainBest(c api.Country, height, rise, tick int) (api.Place, int) {
	most, best := -1, api.Place{}
	for _, p := range allPlaces(c.Map) {
		if n := gain(c, api.Tower{At: p, Height: height}, rise, tick); n > most {
			most, best = n, p
		}
	}
	return best, most
}

// towerNamed returns the tower with an ID.
func towerNamed(c api.Country, id int) api.Tower {
	for _, t := range c.Towers {
		if t.ID == id {
			return t
		}
	}
	return api.Tower{}
}

// mustBe fails a test if an error is not the one that it should be.
func mustBe(t *testing.T, e, want api.Errno, what ...any) {
	t.Helper()
	if e != want {
		t.Error(append([]any{"error", e, "instead of", want, "of"}, what...)...)
	}
}

// isFree is Clear of right arguments.
func isFree(t *testing.T, m api.Map, a api.Place, up int, b api.Place, rise int) bool {
	t.Helper()
	is, e := ridge.Clear(m, a, up, b, rise)
	mustBe(t, e, api.OK, m, a, up, b, rise)
	return is
}
