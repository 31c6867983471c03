package crew_test

import (
	"math"
	"testing"

	"firetower/api"
	"firetower/crew"
)

// own is the arguments that functions have beside trails.
type own struct {
	from, to api.Place
	tick, id int
	s        api.Span
	w        []api.Stage
	a        []api.Arrival
	crews    []api.Crew
	blazes   []api.Blaze
}

// right returns arguments for the example.
func right() own {
	return own{from: at(0, 0), to: at(10, 10), tick: 0, id: 1, s: span(150, 160), w: way(1, 0, 2, 40), a: arrived(0, 40, 90), crews: someCrews(3), blazes: someBlazes(3)}
}

// wrong returns arguments each of which is an error.
func wrong() own {
	return own{from: at(-1, 0), to: at(0, 49), tick: math.MaxInt, id: 9, s: span(1, 0), w: make([]api.Stage, 41), crews: make([]api.Crew, 7), blazes: make([]api.Blaze, 9)}
}

// answered is the error of a function, and whether all its other results are zero.
type answered struct {
	e    api.Errno
	zero bool
}

// answers calls every function that has trails and an error.
func answers(l []api.Trail, o own) map[string]answered {
	out := map[string]answered{"Check": {crew.Check(l), true}, "CheckArrivals": {crew.CheckArrivals(l, o.from, o.tick, o.a), true}}
	a, e := crew.Soonest(l, o.from, o.tick)
	out["Soonest"] = answered{e, len(a) == 0}
	a, e = crew.Surest(l, o.from, o.tick)
	out["Surest"] = answered{e, len(a) == 0}
	w, e := crew.Way(l, o.from, o.to, o.tick)
	out["Way"] = answered{e, len(w) == 0}
	n, e := crew.CheckWay(l, o.from, o.to, o.tick, o.w)
	out["CheckWay"] = answered{e, n == 0}
	ids, e := crew.Needed(l, o.from, o.to, o.tick)
	out["Needed"] = answered{e, len(ids) == 0}
	k, e := crew.Close(l, o.id, o.s)
	out["Close"] = answered{e, len(k) == 0}
	n, e = crew.Reach(l, o.crews[0], o.blazes[0], o.tick)
	out["Reach"] = answered{e, n == 0}
	times, e := crew.Times(l, o.crews, o.blazes, o.tick)
	out["Times"] = answered{e, len(times) == 0}
	office, e := crew.New(l, o.crews)
	out["New"] = answered{e, office == nil}
	return out
}

func TestRightAndWrongArguments(t *testing.T) {
	for name, a := range answers(example(), right()) {
		if a.e != api.OK {
			t.Error(name, a)
		}
	}
	arg, limit := api.ErrArg, api.ErrLimit
	want := map[string]api.Errno{"CheckArrivals": arg, "Soonest": arg, "Surest": arg, "Way": arg, "CheckWay": arg, "Needed": arg, "Close": api.ErrNone, "Reach": arg, "Times": limit, "New": limit}
	for name, a := range answers(example(), wrong()) {
		if a.e != want[name] || !a.zero {
			t.Error(name, a, "instead of", want[name])
		}
	}
}

// All functions return the error of trails first.
func TestTrailsBeforeAllElse(t *testing.T) {
	for _, x := range wrongTrails() {
		for _, o := range []own{right(), wrong()} {
			l := example()
			x.do(&l)
			for name, a := range answers(l, o) {
				if a.e != x.e || !a.zero {
					t.Error(name, "of", x.name, a, "instead of", x.e)
				}
			}
		}
	}
}

// Places and minutes come next.
func TestPlacesAndMinutes(t *testing.T) {
	functions := []string{"Soonest", "Surest", "CheckArrivals", "Way", "CheckWay", "Needed"}
	fails := func(o own, names []string) {
		t.Helper()
		all := answers(example(), o)
		for _, name := range names {
			if all[name].e != api.ErrArg || !all[name].zero {
				t.Error(name, o.from, o.to, o.tick, all[name])
			}
		}
	}
	for _, p := range wrongPlaces() {
		o := right()
		o.from = p
		fails(o, functions)
		o = right()
		o.to = p
		fails(o, functions[3:])
		o.from = p
		fails(o, functions)
	}
	for _, tick := range outside(0, 1<<20) {
		o := right()
		o.tick = tick
		fails(o, functions)
		fails(o, []string{"Reach", "Times"})
	}
	for _, o := range []own{{from: at(0, 0), to: at(48, 48)}, {from: at(48, 48), to: at(0, 0), tick: 1 << 20}} {
		o.crews, o.blazes = right().crews, right().blazes
		all := answers(example(), o)
		for name, want := range map[string]api.Errno{"Soonest": api.OK, "Surest": api.OK, "CheckArrivals": api.ErrProof, "Way": api.ErrNone, "CheckWay": api.ErrProof, "Needed": api.ErrNone, "Reach": api.OK, "Times": api.OK} {
			mustBe(t, all[name].e, want, name, o.tick)
		}
	}
}
