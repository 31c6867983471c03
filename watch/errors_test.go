package watch_test

import (
	"slices"
	"testing"

	"firetower/api"
	"firetower/watch"
)

// own is the arguments that functions have beside a watch, a condition, or orders.
type own struct {
	day, id, from int
	tower         string
	towers        []string
	days          api.Span
	f             facts
}

func right() own {
	return own{day: 3, id: 1, from: 9, tower: "north", towers: []string{"north", "south"}, days: span(0, 9)}
}

// wrong returns arguments each of which is an error.
func wrong() own {
	return own{day: 401, id: 5, from: 401, tower: "on", towers: []string{"on"}, days: span(3, 2), f: facts{-1}}
}

// answered is the error of a function, and whether all its other results are zero.
type answered struct {
	e    api.Errno
	zero bool
}

func zeroWatch(w api.Watch) bool { return len(w.Lines) == 0 && len(w.Orders) == 0 }

func zeroCond(c api.Cond) bool { return sameCond(c, api.Cond{}) }

// ofWatch calls every function that has a watch.
func ofWatch(w api.Watch, o own) map[string]answered {
	s, e := watch.Print(w)
	out := map[string]answered{"Check": {watch.Check(w), true}, "Print": {e, s == ""}}
	duties, e := watch.Duties(w, o.day)
	out["Duties"] = answered{e, len(duties) == 0}
	persons, e := watch.Who(w, o.day, o.tower)
	out["Who"] = answered{e, len(persons) == 0}
	duties, e = watch.Gaps(w, o.towers, o.days)
	out["Gaps"] = answered{e, len(duties) == 0}
	duties, e = watch.Doubles(w, o.days)
	out["Doubles"] = answered{e, len(duties) == 0}
	loads, e := watch.Loads(w, o.days)
	out["Loads"] = answered{e, len(loads) == 0}
	day, is, e := watch.SameDays(w, rich(), o.days)
	out["SameDays of the first"] = answered{e, day == 0 && !is}
	day, is, e = watch.SameDays(rich(), w, o.days)
	out["SameDays of the second"] = answered{e, day == 0 && !is}
	plain, e := watch.Plain(w, o.days)
	out["Plain"] = answered{e, zeroWatch(plain)}
	l := []api.Version{{ID: o.id, From: o.from, Watch: w}}
	if o.id == 1 { // else the version has an error of its own that comes first
		e, at := watch.CheckVersions(l)
		out["CheckVersions"] = answered{e, at == 0}
		all, e := watch.Add(l, api.Version{ID: 2, From: 3})
		out["Add to"] = answered{e, len(all) == 0}
		all, e = watch.Add([]api.Version{{ID: 2, From: 3}}, l[0])
		out["Add"] = answered{e, len(all) == 0}
	}
	l[0].ID, l[0].From = 1, 0
	v, e := watch.InForce(l, o.day)
	out["InForce"] = answered{e, v.ID == 0 && v.From == 0 && zeroWatch(v.Watch)}
	return out
}

// ofCond calls every function that has a condition.
func ofCond(c api.Cond, o own) map[string]answered {
	s, e := watch.PrintCond(c)
	out := map[string]answered{"PrintCond": {e, s == ""}}
	holds, e := watch.Holds(c, o.f)
	out["Holds"] = answered{e, !holds}
	x, e := watch.Inward(c)
	out["Inward"] = answered{e, zeroCond(x)}
	other := is(api.FaCell, api.OpEqual, 1)
	for name, do := range map[string]func(a, b api.Cond) (facts, bool, api.Errno){"Equal": watch.Equal, "Implies": watch.Implies} {
		f, is, e := do(c, other)
		out[name+" of the first"] = answered{e, f == facts{} && !is}
		f, is, e = do(other, c)
		out[name+" of the second"] = answered{e, f == facts{} && !is}
	}
	return out
}

// ofOrders calls every function that has a list of orders.
func ofOrders(l []api.Order, o own) map[string]answered {
	out := map[string]answered{}
	i, is, e := watch.Decide(l, o.f)
	out["Decide"] = answered{e, i == 0 && !is}
	unused, e := watch.Unused(l)
	out["Unused"] = answered{e, len(unused) == 0}
	f, is, e := watch.SameOrders(l, rich().Orders)
	out["SameOrders of the first"] = answered{e, f == facts{} && !is}
	f, is, e = watch.SameOrders(rich().Orders, l)
	out["SameOrders of the second"] = answered{e, f == facts{} && !is}
	return out
}

// expected fails a test if functions have other errors than they should have.
func expected(t *testing.T, what string, got map[string]answered, want func(name string) api.Errno) {
	t.Helper()
	for name, a := range got {
		if e := want(name); a.e != e || e != api.OK && !a.zero {
			t.Error(name, "of", what, a, "instead of", e)
		}
	}
}

func TestP8_2Check(t *testing.T) {
	mustBe(t, watch.Check(api.Watch{}), api.OK, "nothing")
	for _, x := range wrongWatches() {
		w := rich()
		x.do(&w)
		mustBe(t, watch.Check(w), x.e, x.name)
	}
	r := random(10)
	for range 500 {
		w := randomRoster(r, 60, 400)
		w.Orders = randomOrders(r, 30, 5, wide(r))
		mustBe(t, watch.Check(w), api.OK, w)
	}
}

// All functions return the error of a watch, of a condition, or of orders first.
func TestP8_2First(t *testing.T) {
	for _, o := range []own{right(), wrong()} {
		always := func(e api.Errno) func(string) api.Errno { return func(string) api.Errno { return e } }
		for _, x := range wrongWatches() {
			if w := rich(); x.e != api.OK {
				x.do(&w)
				expected(t, x.name, ofWatch(w, o), always(x.e))
			}
		}
		for _, x := range wrongConds() {
			if x.e != api.OK {
				var c api.Cond
				x.do(&c)
				expected(t, x.name, ofCond(c, o), always(x.e))
			}
		}
		for _, x := range wrongOrders() {
			if l := rich().Orders; x.e != api.OK {
				x.do(&l)
				expected(t, x.name, ofOrders(l, o), always(x.e))
			}
		}
	}
}

func TestRightArguments(t *testing.T) {
	fine := func(string) api.Errno { return api.OK }
	expected(t, "the rich watch", ofWatch(rich(), right()), fine)
	expected(t, "its orders", ofOrders(rich().Orders, right()), fine)
	for _, o := range rich().Orders {
		expected(t, "its conditions", ofCond(o.When, right()), fine)
	}
	arg := func(free ...string) func(string) api.Errno {
		return func(name string) api.Errno {
			if slices.Contains(free, name) {
				return api.OK
			}
			return api.ErrArg
		}
	}
	expected(t, "the rich watch", ofWatch(rich(), wrong()), arg("Check", "Print"))
	expected(t, "its orders", ofOrders(rich().Orders, wrong()), arg("Unused", "SameOrders of the first", "SameOrders of the second"))
	expected(t, "a condition", ofCond(rich().Orders[0].When, wrong()), arg("PrintCond", "Inward", "Equal of the first", "Equal of the second", "Implies of the first", "Implies of the second"))
}

// Of two watches, conditions or lists of orders, the first one's error comes first.
func TestFirstOfTwo(t *testing.T) {
	limit, form := rich(), rich()
	limit.Lines = make([]api.Line, 61)
	form.Lines[0].Kind = 0
	_, _, e := watch.SameDays(limit, form, span(3, 2))
	mustBe(t, e, api.ErrLimit, "SameDays")
	_, _, e = watch.SameDays(form, limit, span(3, 2))
	mustBe(t, e, api.ErrForm, "SameDays")
	many, none := make([]api.Order, 31), make([]api.Order, 1)
	_, _, e = watch.SameOrders(many, none)
	mustBe(t, e, api.ErrLimit, "SameOrders")
	_, _, e = watch.SameOrders(none, many)
	mustBe(t, e, api.ErrForm, "SameOrders")
}
