package cell_test

import (
	"slices"
	"testing"

	"firetower/api"
	"firetower/cell"
)

// own is the arguments that functions have beside a service, a burn and a list.
type own struct {
	places  []api.Place
	reasons []api.Reason
	f       api.Form
	x       api.Look
	looks   []api.Look
}

// right returns arguments for the rich service.
func right() own {
	x := api.Look{Tower: 2, Circle: 2, Tick: 35, From: 1300, To: 1400, Slack: 1}
	b, _ := told()
	reasons, _ := cell.Reasons(rich(), b, richReports())
	places, _ := cell.Places(rich(), b, richReports())
	return own{places: places, reasons: reasons, f: api.Form{X: 1, Y: -1}, x: x, looks: []api.Look{x, x}}
}

// wrong returns arguments each of which is an error.
func wrong() own {
	return own{reasons: []api.Reason{{}}, f: api.Form{X: 1001}, x: api.Look{Tower: -1, Slack: 1}, looks: make([]api.Look, 41)}
}

// answer is the error of a function, and whether all its other results are zero.
type answer struct {
	e    api.Errno
	zero bool
}

// answers calls every function that has a service, a burn, a list and an error.
func answers(s api.Service, b api.Burn, l []api.Report, o own) map[string]answer {
	out := map[string]answer{}
	places, e := cell.Places(s, b, l)
	out["Places"] = answer{e, len(places) == 0}
	reasons, e := cell.Reasons(s, b, l)
	out["Reasons"] = answer{e, len(reasons) == 0}
	out["CheckCell"] = answer{cell.CheckCell(s, b, l, o.places, o.reasons), true}
	for name, f := range map[string]func(s api.Service, b api.Burn, l []api.Report) ([]int, api.Errno){"Core": cell.Core, "Suspects": cell.Suspects, "Needed": cell.Needed} {
		ids, e := f(s, b, l)
		out[name] = answer{e, len(ids) == 0}
	}
	h, ids, e := cell.Halves(s, b, l)
	out["Halves"] = answer{e, len(h) == 0 && len(ids) == 0}
	bound, e := cell.Bound(s, b, l, o.f)
	out["Bound"] = answer{e, bound.Value == api.Frac{} && bound.At == api.Corner{} && bound.Scale == 0 && len(bound.Uses) == 0}
	n, p, e := cell.Most(s, b, l, o.f)
	out["Most"] = answer{e, n == 0 && p == api.Place{}}
	h, e = cell.Hull(s, b, l)
	out["Hull"] = answer{e, len(h) == 0}
	found, e := cell.Behind(s, b, l, o.x)
	out["Behind"] = answer{e, found == api.Found{}}
	n, e = cell.Best(s, b, l, o.looks)
	out["Best"] = answer{e, n == 0}
	return out
}

// refused fails a test unless all functions return an error, and nothing else.
func refused(t *testing.T, what string, l map[string]answer, want api.Errno) {
	t.Helper()
	for name, a := range l {
		if a.e != want || !a.zero {
			t.Error(name, "of", what, a, "instead of", want)
		}
	}
}

func TestRightArguments(t *testing.T) {
	b, l := told()
	for name, a := range answers(rich(), b, richReports(), right()) {
		if want := map[string]api.Errno{"Core": api.ErrNone}[name]; a.e != want {
			t.Error(name, a)
		}
	}
	for name, a := range answers(rich(), b, l, wrong()) {
		if want := map[string]api.Errno{"CheckCell": api.ErrProof, "Bound": api.ErrArg, "Most": api.ErrArg, "Behind": api.ErrNone, "Best": api.ErrLimit, "Hull": api.ErrClash}[name]; a.e != want {
			t.Error(name, a, "instead of", want)
		}
	}
}

// All functions return the error of a service first, then that of a burn, and then that of a list.
func TestServiceBeforeAllElse(t *testing.T) {
	b, _ := told()
	for _, x := range wrongServices() {
		s := rich()
		x.do(&s)
		refused(t, x.name, answers(s, b, richReports(), right()), x.e)
		refused(t, x.name+", all else wrong", answers(s, api.Burn{From: -1}, many(25), wrong()), x.e)
		twice := slices.Repeat(many(1), 2)
		refused(t, x.name+", report twice", answers(s, b, twice, wrong()), x.e)
	}
}

func TestBurnBeforeListAndAllElse(t *testing.T) {
	for _, b := range wrongBurns() {
		refused(t, "burn", answers(rich(), b, richReports(), right()), api.ErrArg)
		refused(t, "burn, all else wrong", answers(rich(), b, many(25), wrong()), api.ErrArg)
		refused(t, "burn, report twice", answers(rich(), b, slices.Repeat(many(1), 2), wrong()), api.ErrArg)
	}
}

func TestListBeforeAllElse(t *testing.T) {
	b, _ := told()
	for _, x := range wrongLists() {
		l := richReports()
		x.do(&l)
		refused(t, x.name, answers(rich(), b, l, right()), x.e)
		refused(t, x.name+", all else wrong", answers(rich(), b, l, wrong()), x.e)
	}
}

func TestRightBurns(t *testing.T) {
	for _, b := range []api.Burn{{}, {From: 1 << 20, To: 1 << 20, Rise: 200}, {To: 1 << 20}, {From: 7, To: 7}} {
		if _, e := cell.Places(rich(), b, richReports()); e != api.OK {
			t.Error(b, e)
		}
		if x, e := cell.New(rich(), b); x == nil || e != api.OK {
			t.Error(b, x, e)
		}
	}
}
