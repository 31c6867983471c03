package watch_test

import (
	"slices"
	"testing"

	"firetower/api"
	"firetower/watch"
)

// versions returns two versions.
func versions(t *testing.T) []api.Version {
	return []api.Version{{ID: 7, From: 3, Watch: rich()}, {ID: 1, From: 10, Watch: parsed(t, example)}, {ID: 1 << 40, From: 400}}
}

// many returns so many versions.
func many(n int) []api.Version {
	var out []api.Version
	for i := range n {
		out = append(out, api.Version{ID: 50 - i, From: 2 * i})
	}
	return out
}

func TestP8_9CheckVersions(t *testing.T) {
	type version = api.Version
	at := func(i int, do func(v *version)) func(l *[]version) { return func(l *[]version) { do(&(*l)[i]) } }
	for i, x := range []struct {
		do func(l *[]version)
		e  api.Errno
		at int
	}{
		{func(l *[]version) {}, api.OK, 0}, {func(l *[]version) { *l = nil }, api.OK, 0}, {func(l *[]version) { *l = many(20) }, api.OK, 0}, {func(l *[]version) { *l = many(21) }, api.ErrLimit, 0}, {func(l *[]version) { *l = make([]version, 21) }, api.ErrLimit, 0},
		{at(1, func(v *version) { v.ID = 0 }), api.ErrArg, 1}, {at(1, func(v *version) { v.ID = -1 }), api.ErrArg, 1}, {at(2, func(v *version) { v.ID = 1<<40 + 1 }), api.ErrArg, 2},
		{at(0, func(v *version) { v.From = -1 }), api.ErrArg, 0}, {at(0, func(v *version) { v.From = 0 }), api.OK, 0}, {at(2, func(v *version) { v.From = 401 }), api.ErrArg, 2}, {at(1, func(v *version) { v.From = 3 }), api.ErrArg, 1}, {at(1, func(v *version) { v.From = 2 }), api.ErrArg, 1}, {at(0, func(v *version) { v.From = 10 }), api.ErrArg, 1},
		{at(1, func(v *version) { v.ID = 7 }), api.ErrTwice, 1}, {at(2, func(v *version) { v.ID = 7 }), api.ErrTwice, 2}, {at(2, func(v *version) { v.ID = 1 }), api.ErrTwice, 2},
		{at(1, func(v *version) { v.Watch.Lines[2].To = 401 }), api.ErrForm, 1}, {at(0, func(v *version) { v.Watch.Orders[1].Rank = -1 }), api.ErrForm, 0}, {at(2, func(v *version) { v.Watch.Orders = make([]api.Order, 31) }), api.ErrLimit, 2},
		// A version's errors in their order, and all of one version ahead of those of the next one.
		{at(1, func(v *version) { *v = version{ID: 7, From: 3, Watch: api.Watch{Lines: make([]api.Line, 1)}} }), api.ErrArg, 1},
		{at(1, func(v *version) { *v = version{ID: 7, From: 4, Watch: api.Watch{Lines: make([]api.Line, 1)}} }), api.ErrTwice, 1},
		{func(l *[]version) { (*l)[0].Watch.Lines[0].Kind, (*l)[1].ID = 0, 0 }, api.ErrForm, 0},
		{func(l *[]version) { (*l)[1].Watch.Lines[0].Kind, (*l)[2].ID = 0, 0 }, api.ErrForm, 1},
		{func(l *[]version) { (*l)[1].ID, (*l)[2].From = 7, 0 }, api.ErrTwice, 1},
	} {
		l := versions(t)
		x.do(&l)
		if e, at := watch.CheckVersions(l); e != x.e || at != x.at {
			t.Error(i, e, at, "instead of", x)
		}
		if x.e == api.OK {
			continue
		}
		// The other functions return this error first.
		if all, e := watch.Add(l, api.Version{ID: 7, From: 3}); len(all) > 0 || e != x.e {
			t.Error(i, all, e)
		}
		if v, e := watch.InForce(l, 401); !sameVersion(v, api.Version{}) || e != x.e {
			t.Error(i, v, e)
		}
	}
}

func TestP8_9Add(t *testing.T) {
	bad := api.Watch{Lines: make([]api.Line, 1)}
	for i, x := range []struct {
		l  []api.Version
		v  api.Version
		e  api.Errno
		at int
	}{
		{nil, api.Version{ID: 1, From: 0}, api.OK, 0}, {versions(t), api.Version{ID: 2, From: 0, Watch: rich()}, api.OK, 0}, {versions(t), api.Version{ID: 2, From: 4, Watch: rich()}, api.OK, 1}, {versions(t), api.Version{ID: 2, From: 399}, api.OK, 2}, {versions(t)[:2], api.Version{ID: 2, From: 399}, api.OK, 2}, {many(19), api.Version{ID: 1, From: 3}, api.OK, 2},
		{versions(t), api.Version{ID: 7, From: 4}, api.ErrTwice, 0}, {versions(t), api.Version{ID: 2, From: 10}, api.ErrTwice, 0}, {versions(t), api.Version{ID: 0, From: 10}, api.ErrTwice, 0}, {versions(t), api.Version{ID: 7, From: -1, Watch: bad}, api.ErrTwice, 0}, {versions(t), api.Version{ID: 2, From: 400, Watch: bad}, api.ErrTwice, 0},
		{versions(t), api.Version{ID: 0, From: 4}, api.ErrArg, 0}, {versions(t), api.Version{ID: 2, From: -1}, api.ErrArg, 0}, {versions(t), api.Version{ID: 2, From: 401}, api.ErrArg, 0}, {versions(t), api.Version{ID: 1<<40 + 1, From: 4}, api.ErrArg, 0}, {versions(t), api.Version{ID: 2, From: 4, Watch: bad}, api.ErrForm, 0}, {nil, api.Version{}, api.ErrArg, 0},
		{many(20), api.Version{ID: 1, From: 3}, api.ErrLimit, 0}, {many(20), api.Version{ID: 50, From: 3}, api.ErrTwice, 0}, {many(20), api.Version{ID: 0, From: 401, Watch: bad}, api.ErrLimit, 0},
	} {
		got, e := watch.Add(x.l, x.v)
		mustBe(t, e, x.e, i)
		want := slices.Insert(slices.Clone(x.l), x.at, x.v)
		if e == api.OK && !slices.EqualFunc(got, want, sameVersion) || e != api.OK && len(got) > 0 {
			t.Error(i, got, "instead of", want)
		}
	}
}

func TestP8_9InForce(t *testing.T) {
	l := versions(t)
	for _, x := range []struct {
		day, at int
		e       api.Errno
	}{{0, 0, api.ErrNone}, {2, 0, api.ErrNone}, {3, 0, api.OK}, {9, 0, api.OK}, {10, 1, api.OK}, {399, 1, api.OK}, {400, 2, api.OK}, {401, 0, api.ErrArg}, {-1, 0, api.ErrArg}} {
		v, e := watch.InForce(l, x.day)
		mustBe(t, e, x.e, x.day)
		if e == api.OK && !sameVersion(v, l[x.at]) || e != api.OK && !sameVersion(v, api.Version{}) {
			t.Error(x, v)
		}
	}
	_, e := watch.InForce(nil, 400)
	mustBe(t, e, api.ErrNone, "no versions")
	_, e = watch.InForce(nil, -1)
	mustBe(t, e, api.ErrArg, "no versions, no day")
}

func TestP8_15Versions(t *testing.T) {
	r := random(50)
	kept, new := 0, 0
	for range 150 {
		var l []api.Version
		for i := range 8 {
			v := api.Version{ID: 1 + r.IntN(30), From: r.IntN(401), Watch: randomRoster(r, 3, 400)}
			next, e := watch.Add(l, v)
			if e != api.OK {
				mustBe(t, e, api.ErrTwice, l, v)
				continue
			}
			until := 401
			for _, o := range l {
				if o.From > v.From {
					until = min(until, o.From)
				}
			}
			for day := i; day <= 400; day += 1 + r.IntN(9) {
				was, before := watch.InForce(l, day)
				is, after := watch.InForce(next, day)
				if day >= v.From && day < until {
					new++
					if !sameVersion(is, v) || after != api.OK {
						t.Fatal(l, v, day, is, after)
					}
				} else if kept++; !sameVersion(is, was) || before != after {
					t.Fatal(l, v, day, was, before, is, after)
				}
			}
			l = next
		}
	}
	counted(t, "days with what was in force", kept, 3000)
	counted(t, "days with what was added", new, 3000)
}
