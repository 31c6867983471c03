package crew_test

import (
	"cmp"
	"slices"
	"testing"

	"firetower/api"
	"firetower/crew"
)

// What follows is written from the chapter alone, in the plainest way, so that the package can be held against it.

// horizon is behind all minutes at which somebody is at a place of random trails for the first time.
const horizon = 220

func at(x, y int) api.Place { return api.Place{X: x, Y: y} }

func span(lo, hi int) api.Span { return api.Span{Lo: lo, Hi: hi} }

// example returns the trails of the chapter's examples.
func example() []api.Trail {
	return []api.Trail{
		{ID: 1, A: at(0, 0), B: at(10, 0), Fast: 30, Slow: 40, Closed: []api.Span{span(100, 149)}},
		{ID: 2, A: at(10, 0), B: at(10, 10), Fast: 20, Slow: 50},
		{ID: 3, A: at(0, 0), B: at(10, 10), Fast: 80, Slow: 120},
	}
}

// way returns stages; n is a trail and a minute for each of them.
func way(n ...int) []api.Stage {
	var out []api.Stage
	for i := 0; i < len(n); i += 2 {
		out = append(out, api.Stage{Trail: n[i], Tick: n[i+1]})
	}
	return out
}

// copyOf returns trails that share no memory with others.
func copyOf(l []api.Trail) []api.Trail {
	out := slices.Clone(l)
	for i := range out {
		out[i].Closed = slices.Clone(out[i].Closed)
	}
	return out
}

// sameTrails reports whether two lists of trails are the same.
func sameTrails(a, b []api.Trail) bool {
	return slices.EqualFunc(a, b, func(x, y api.Trail) bool {
		return x.ID == y.ID && x.A == y.A && x.B == y.B && x.Fast == y.Fast && x.Slow == y.Slow && slices.Equal(x.Closed, y.Closed)
	})
}

// open reports whether a trail can be entered at a minute.
func open(t api.Trail, minute int) bool {
	return !slices.ContainsFunc(t.Closed, func(s api.Span) bool { return s.Lo <= minute && minute <= s.Hi })
}

// plainEnter returns the first minute from one on at which a trail can be entered.
func plainEnter(t api.Trail, minute int) int {
	for !open(t, minute) {
		minute++
	}
	return minute
}

// plainPlaces returns the places of trails from a place.
func plainPlaces(l []api.Trail, from api.Place) []api.Place {
	var out []api.Place
	for y := range 49 {
		for x := range 49 {
			p := at(x, y)
			if p == from || slices.ContainsFunc(l, func(t api.Trail) bool { return t.A == p || t.B == p }) {
				out = append(out, p)
			}
		}
	}
	return out
}

func slow(t api.Trail) int { return t.Slow }

func fast(t api.Trail) int { return t.Fast }

// plainArrivals returns the first minutes before the horizon at which somebody can be at places, if trails take some minutes. It goes minute by minute.
func plainArrivals(l []api.Trail, from api.Place, tick int, takes func(t api.Trail) int) []api.Arrival {
	type spot struct {
		at     api.Place
		minute int
	}
	there := map[spot]bool{{from, tick}: true}
	var out []api.Arrival
	for _, p := range plainPlaces(l, from) {
		out = append(out, api.Arrival{At: p, Tick: -1})
	}
	for m := tick; m < tick+horizon; m++ {
		for i, a := range out {
			if !there[spot{a.At, m}] {
				continue
			}
			if a.Tick < 0 {
				out[i].Tick = m
			}
			there[spot{a.At, m + 1}] = true
			for _, t := range l {
				if open(t, m) && t.A == a.At {
					there[spot{t.B, m + takes(t)}] = true
				}
				if open(t, m) && t.B == a.At {
					there[spot{t.A, m + takes(t)}] = true
				}
			}
		}
	}
	return out
}

// minuteOf returns the minute of a place; -1 if it is none of the places.
func minuteOf(l []api.Arrival, p api.Place) int {
	for _, a := range l {
		if a.At == p {
			return a.Tick
		}
	}
	return -1
}

// plainSurest returns what Surest says of one place.
func plainSurest(l []api.Trail, from, to api.Place, tick int) int {
	return minuteOf(plainArrivals(l, from, tick, slow), to)
}

// notEarlier reports whether of two minutes (-1: never) the first one is not earlier.
func notEarlier(a, b int) bool { return a < 0 || b >= 0 && a >= b }

// less returns a list without one of its elements.
func less[T any](l []T, i int) []T { return slices.Delete(slices.Clone(l), i, i+1) }

// plainNeeded returns the IDs of the trails without each of which somebody is later.
func plainNeeded(l []api.Trail, from, to api.Place, tick int) []int {
	var out []int
	for i, t := range l {
		if n := plainSurest(less(l, i), from, to, tick); n < 0 || n > plainSurest(l, from, to, tick) {
			out = append(out, t.ID)
		}
	}
	slices.Sort(out)
	return out
}

// otherEnd returns the other end of a trail, and whether a place is an end.
func otherEnd(t api.Trail, p api.Place) (api.Place, bool) {
	switch p {
	case t.A:
		return t.B, true
	case t.B:
		return t.A, true
	}
	return api.Place{}, false
}

// plainCheckWay returns what CheckWay has to, for right trails, places and minutes, and not too many stages.
func plainCheckWay(l []api.Trail, from, to api.Place, tick int, w []api.Stage) (int, api.Errno) {
	for _, s := range w {
		i := slices.IndexFunc(l, func(t api.Trail) bool { return t.ID == s.Trail })
		if i < 0 {
			return 0, api.ErrProof
		}
		next, is := otherEnd(l[i], from)
		if !is || s.Tick < tick || s.Tick > 1<<26 || !open(l[i], s.Tick) {
			return 0, api.ErrProof
		}
		from, tick = next, s.Tick+l[i].Slow
	}
	if from != to {
		return 0, api.ErrProof
	}
	return tick, api.OK
}

// plainCheckArrivals reports whether CheckArrivals has to accept minutes, for right trails, a place and a minute.
func plainCheckArrivals(l []api.Trail, from api.Place, tick int, a []api.Arrival) bool {
	var all []api.Place
	for _, x := range a {
		all = append(all, x.At)
		if x.Tick < -1 || x.Tick > 1<<26 {
			return false
		}
	}
	if n := minuteOf(a, from); !slices.Equal(all, plainPlaces(l, from)) || n < 0 || n > tick {
		return false
	}
	proves := func(t api.Trail, from, to api.Place) bool {
		n := minuteOf(a, to)
		return minuteOf(a, from) < 0 || n >= 0 && n <= plainEnter(t, minuteOf(a, from))+t.Slow
	}
	return !slices.ContainsFunc(l, func(t api.Trail) bool { return !proves(t, t.A, t.B) || !proves(t, t.B, t.A) })
}

// plainUnited returns the fewest spans before the horizon that have all minutes of some spans.
func plainUnited(l []api.Span) []api.Span {
	var out []api.Span
	t := api.Trail{Closed: l}
	for m := range horizon {
		switch {
		case open(t, m):
		case m > 0 && !open(t, m-1):
			out[len(out)-1].Hi = m
		default:
			out = append(out, span(m, m))
		}
	}
	return out
}

// plainReach returns what Reach has to, for right arguments.
func plainReach(l []api.Trail, c api.Crew, b api.Blaze, tick int) int {
	a := plainArrivals(l, c.At, max(c.Free, tick), slow)
	out := 0
	for _, p := range b.Cell {
		var all []int
		for _, q := range a {
			if q.Tick >= 0 {
				far := max(p.X, q.At.X) - min(p.X, q.At.X)
				up := max(p.Y, q.At.Y) - min(p.Y, q.At.Y)
				all = append(all, q.Tick+20*max(far, up))
			}
		}
		out = max(out, slices.Min(all))
	}
	return out
}

func plainTimes(l []api.Trail, crews []api.Crew, blazes []api.Blaze, tick int) [][]int {
	var out [][]int
	for _, c := range crews {
		var row []int
		for _, b := range blazes {
			n := -1
			if b.Proved {
				n = plainReach(l, c, b, tick)
			}
			row = append(row, n)
		}
		out = append(out, row)
	}
	return out
}

// sameTables reports whether two tables are the same.
func sameTables(a, b [][]int) bool { return slices.EqualFunc(a, b, slices.Equal[[]int]) }

// allSends returns all sends for the rows of a table from one on, with columns that are not taken.
func allSends(times [][]int, row int, taken map[int]bool) [][]api.Send {
	if row == len(times) {
		return [][]api.Send{nil}
	}
	out := allSends(times, row+1, taken)
	for i, t := range times[row] {
		if t < 0 || taken[i] {
			continue
		}
		taken[i] = true
		for _, l := range allSends(times, row+1, taken) {
			out = append(out, append([]api.Send{{Crew: row, Blaze: i}}, l...))
		}
		taken[i] = false
	}
	return out
}

func plainSum(times [][]int, l []api.Send) int {
	out := 0
	for _, s := range l {
		out += times[s.Crew][s.Blaze]
	}
	return out
}

func bySend(a, b api.Send) int {
	return cmp.Or(cmp.Compare(a.Crew, b.Crew), cmp.Compare(a.Blaze, b.Blaze))
}

// plainBest returns all sends with the most pairs and, of these, the least sum, the least list first.
func plainBest(times [][]int) [][]api.Send {
	var out [][]api.Send
	for _, l := range allSends(times, 0, map[int]bool{}) {
		if len(out) > 0 {
			n := cmp.Or(cmp.Compare(len(l), len(out[0])), cmp.Compare(plainSum(times, out[0]), plainSum(times, l)))
			if n < 0 {
				continue
			}
			if n > 0 {
				out = nil
			}
		}
		out = append(out, l)
	}
	slices.SortFunc(out, func(a, b []api.Send) int { return slices.CompareFunc(a, b, bySend) })
	return out
}

// plainForced returns the pairs that stand in all of some sends.
func plainForced(all [][]api.Send) []api.Send {
	var out []api.Send
	for _, s := range all[0] {
		if !slices.ContainsFunc(all, func(l []api.Send) bool { return !slices.Contains(l, s) }) {
			out = append(out, s)
		}
	}
	return out
}

// plainColumns returns how many columns a table has.
func plainColumns(times [][]int) int {
	if len(times) == 0 {
		return 0
	}
	return len(times[0])
}

// plainSends reports whether pairs are sends for a table.
func plainSends(times [][]int, l []api.Send) bool {
	crews, blazes := map[int]bool{}, map[int]bool{}
	for _, s := range l {
		if s.Crew < 0 || s.Crew >= len(times) || s.Blaze < 0 || s.Blaze >= len(times[s.Crew]) || times[s.Crew][s.Blaze] < 0 || crews[s.Crew] || blazes[s.Blaze] {
			return false
		}
		crews[s.Crew], blazes[s.Blaze] = true, true
	}
	return slices.IsSortedFunc(l, bySend)
}

// plainProved reports whether a plan is proved for a valid table.
func plainProved(times [][]int, p api.Plan) bool {
	if !plainSends(times, p.Sends) || p.Sum != plainSum(times, p.Sends) || len(p.Crews) != len(times) || len(p.Blazes) != plainColumns(times) {
		return false
	}
	all := 0
	for _, n := range append(slices.Clone(p.Crews), p.Blazes...) {
		if n < 0 || n > 1<<28 {
			return false
		}
		all += n
	}
	for i, row := range times {
		for j, t := range row {
			if t >= 0 && p.Crews[i]+p.Blazes[j] < 1<<28-t {
				return false
			}
		}
	}
	return all == len(p.Sends)<<28-p.Sum
}

// mustBe fails a test if an error is not the one that it should be.
func mustBe(t *testing.T, e, want api.Errno, what ...any) {
	t.Helper()
	if e != want {
		t.Error(append([]any{"error", e, "instead of", want, "of"}, what...)...)
	}
}

// counted fails a test if something that it should have met was too seldom.
func counted(t *testing.T, what string, n, least int) {
	t.Helper()
	if n < least {
		t.Error("only", n, what, "instead of", least)
	}
}

// surest returns what Surest does where it must not fail.
func surest(t *testing.T, l []api.Trail, from api.Place, tick int) []api.Arrival {
	t.Helper()
	out, e := crew.Surest(l, from, tick)
	mustBe(t, e, api.OK, "Surest", l, from, tick)
	return out
}
