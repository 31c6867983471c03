package join_test

import (
	"testing"

	"firetower/api"
	"firetower/join"
)

// own is the arguments that functions have beside a day.
type own struct {
	ids, without []int
	j            api.Joins
	smokes, a, b int
	p            [][]int
	v            api.Verdict
	r            api.Report
}

// right returns arguments for the rich day.
func right() own {
	r := blank()
	r.ID, r.Tick = 6, 350
	j, _ := join.Table(rich())
	v, _ := join.Same(rich(), 1, 2)
	return own{ids: []int{1, 2}, without: []int{4}, j: j, smokes: 2, a: 1, b: 2, p: v.Together, v: v, r: r}
}

// wrong returns arguments each of which is an error.
func wrong() own {
	return own{j: api.Joins{Fits: make([]api.Fit, 128), Misfits: make([]api.Misfit, 128)}, smokes: 8, a: 4, b: 4, p: [][]int{nil}}
}

// answered is the error of a function, and whether all its other results are zero.
type answered struct {
	e    api.Errno
	zero bool
}

func zeroTable(j api.Joins) bool { return len(j.Fits) == 0 && len(j.Misfits) == 0 }

func zeroVerdict(v api.Verdict) bool {
	return v.Answer == 0 && len(v.Together) == 0 && len(v.Apart) == 0
}

func zeroDay(d api.Day) bool {
	m := d.Service.Country
	return d.Rise == 0 && d.Long == 0 && len(d.Reports) == 0 && m.Map.Wide == 0 && m.Map.High == 0 && len(m.Map.Ground) == 0 && len(m.Towers) == 0 && len(m.Haze) == 0 && len(d.Service.Circles.Circles) == 0 && len(d.Service.Circles.Checks) == 0
}

// answers calls every function that has a day and an error.
func answers(d api.Day, o own) map[string]answered {
	out := map[string]answered{"Check": {join.Check(d), true}, "CheckTable": {join.CheckTable(d, o.j), true}, "CheckPartition": {join.CheckPartition(d, o.p), true}, "CheckSame": {join.CheckSame(d, o.j, o.a, o.b, o.v), true}}
	l, e := join.Sightings(d)
	out["Sightings"] = answered{e, len(l) == 0}
	b, e := join.Burn(d, o.ids)
	out["Burn"] = answered{e, b == api.Burn{}}
	places, e := join.Cell(d, o.ids)
	out["Cell"] = answered{e, len(places) == 0}
	is, e := join.Possible(d, o.ids)
	out["Possible"] = answered{e, !is}
	j, e := join.Table(d)
	out["Table"] = answered{e, zeroTable(j)}
	l, e = join.Count(d)
	out["Count"] = answered{e, len(l) == 0}
	n, e := join.Fewest(d)
	out["Fewest"] = answered{e, n == 0}
	all, e := join.Partitions(d, o.smokes)
	out["Partitions"] = answered{e, len(all) == 0}
	v, e := join.Same(d, o.a, o.b)
	out["Same"] = answered{e, zeroVerdict(v)}
	p, e := join.Proved(d)
	out["Proved"] = answered{e, len(p) == 0}
	p, e = join.Groups(d)
	out["Groups"] = answered{e, len(p) == 0}
	places, e = join.Stands(d, o.a)
	out["Stands"] = answered{e, len(places) == 0}
	l, e = join.Rests(d, o.a, o.b)
	out["Rests"] = answered{e, len(l) == 0}
	x, e := join.With(d, o.r)
	out["With"] = answered{e, zeroDay(x)}
	x, e = join.Without(d, o.without)
	out["Without"] = answered{e, zeroDay(x)}
	return out
}

func TestRightArguments(t *testing.T) {
	for name, a := range answers(rich(), right()) {
		if a.e != api.OK {
			t.Error(name, a)
		}
	}
	none, arg, limit, proof := api.ErrNone, api.ErrArg, api.ErrLimit, api.ErrProof
	want := map[string]api.Errno{"Burn": arg, "Cell": arg, "Possible": arg, "CheckTable": limit, "Partitions": arg, "CheckPartition": proof, "Same": none, "CheckSame": none, "Stands": none, "Rests": none, "With": arg}
	for name, a := range answers(rich(), wrong()) {
		if a.e != want[name] {
			t.Error(name, a, "instead of", want[name])
		}
	}
}

// All functions return the error of a day first.
func TestDayBeforeAllElse(t *testing.T) {
	for _, x := range wrongDays() {
		for _, o := range []own{right(), wrong()} {
			d := rich()
			x.do(&d)
			for name, a := range answers(d, o) {
				if a.e != x.e || !a.zero {
					t.Error(name, "of", x.name, a, "instead of", x.e)
				}
			}
		}
	}
}

// clashing returns a day in which no partition is possible: the circle of a sighting looks away from the map.
func clashing() api.Day {
	d := rich()
	d.Reports[0].From = 2700
	return d
}

// If no partition is possible, what comes of partitions is ErrClash, behind all other errors but ErrProof.
func TestClashes(t *testing.T) {
	clash := map[string]bool{"Fewest": true, "Same": true, "Proved": true, "Groups": true, "Stands": true, "Rests": true}
	o := right()
	for name, a := range answers(clashing(), o) {
		if clash[name] && (a.e != api.ErrClash || !a.zero) {
			t.Error(name, a)
		}
		if !clash[name] && a.e == api.ErrClash {
			t.Error(name, a)
		}
	}
	for _, e := range []api.Errno{
		join.CheckSame(clashing(), api.Joins{}, 1, 2, o.v), join.CheckSame(rich(), api.Joins{}, 1, 2, o.v), join.CheckSame(rich(), api.Joins{Fits: o.j.Fits[1:]}, 1, 2, api.Verdict{}),
	} {
		mustBe(t, e, api.ErrClash, "CheckSame")
	}
	mustBe(t, join.CheckSame(clashing(), o.j, 1, 2, o.v), api.OK, "CheckSame looks at the table alone")
	all, e := join.Partitions(clashing(), 2)
	if len(all) != 0 || e != api.OK {
		t.Error(all, e)
	}
	for _, x := range []struct {
		a, b int
		e    api.Errno
	}{{1, 9, api.ErrNone}, {9, 1, api.ErrNone}, {4, 1, api.ErrNone}, {4, 4, api.ErrNone}, {9, 9, api.ErrNone}, {1, 1, api.ErrArg}, {3, 3, api.ErrArg}, {1, 2, api.ErrClash}} {
		o := own{a: x.a, b: x.b}
		for name, a := range answers(clashing(), o) {
			if (name == "Same" || name == "Rests" || name == "CheckSame") && (a.e != x.e || !a.zero) {
				t.Error(name, x, a)
			}
		}
	}
	if l, e := join.Stands(clashing(), 9); len(l) > 0 || e != api.ErrNone {
		t.Error(l, e)
	}
}
