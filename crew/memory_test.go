package crew_test

import (
	"reflect"
	"slices"
	"testing"

	"firetower/api"
	"firetower/crew"
)

// longer returns a list with more behind its end, and a function that says whether what lies there is still as it was.
func longer[T any](l []T) ([]T, func() bool) {
	var behind T
	long := append(slices.Clone(l), behind, behind, behind)
	kept := slices.Clone(long)
	return long[:len(l)], func() bool { return reflect.DeepEqual(long, kept) }
}

// neighbours returns trails, some of which are closed in spans that are neighbours.
func neighbours() []api.Trail {
	l := example()
	l[0].Closed = []api.Span{span(3, 5), span(6, 9), span(100, 149)}
	l[1].Closed = []api.Span{span(0, 0), span(2, 4)}
	return l
}

func TestArgumentsAreNotChanged(t *testing.T) {
	l, o, times := neighbours(), right(), [][]int{{5, 9}, {4, -1}}
	plan, _ := crew.Best(times)
	var same [13]func() bool
	l[0].Closed, same[0] = longer(l[0].Closed)
	l[1].Closed, same[1] = longer(l[1].Closed)
	l, same[2] = longer(l)
	o.w, same[3] = longer(o.w)
	o.a, same[4] = longer(o.a)
	o.crews, same[5] = longer(o.crews)
	o.blazes[0].Cell, same[6] = longer(o.blazes[0].Cell)
	o.blazes, same[7] = longer(o.blazes)
	times[0], same[8] = longer(times[0])
	times, same[9] = longer(times)
	plan.Sends, same[10] = longer(plan.Sends)
	plan.Crews, same[11] = longer(plan.Crews)
	plan.Blazes, same[12] = longer(plan.Blazes)
	answers(l, o)
	for _, s := range []api.Span{span(10, 20), span(0, 0), span(150, 160), span(0, 1<<20)} {
		crew.Close(l, 1, s)
	}
	crew.Best(times)
	crew.Forced(times)
	crew.CheckPlan(times, plan)
	x, _ := crew.New(l, o.crews)
	for _, b := range o.blazes {
		x.Do(tell(b))
	}
	for _, d := range []api.Deed{send(0), done(50, at(1, 1), 1), withdraw(90), send(2)} {
		x.Do(d)
	}
	for i, is := range same {
		if !is() {
			t.Error("changed:", i)
		}
	}
}

// blot overwrites all that can be reached from a value, also behind the ends of slices.
func blot(v reflect.Value) {
	switch v.Kind() {
	case reflect.Slice:
		v = v.Slice(0, v.Cap())
		for i := range v.Len() {
			blot(v.Index(i))
		}
	case reflect.Struct:
		for i := range v.NumField() {
			blot(v.Field(i))
		}
	case reflect.Int:
		v.SetInt(-77)
	case reflect.Bool:
		v.SetBool(!v.Bool())
	}
}

// slicesOf returns the memory of all slices that can be reached from a value: where each one begins, and where it ends.
func slicesOf(v reflect.Value) [][2]uintptr {
	var out [][2]uintptr
	switch v.Kind() {
	case reflect.Slice:
		if v.Cap() > 0 {
			out = append(out, [2]uintptr{v.Pointer(), v.Pointer() + uintptr(v.Cap())*v.Type().Elem().Size()})
		}
		for i := range v.Len() {
			out = append(out, slicesOf(v.Index(i))...)
		}
	case reflect.Struct:
		for i := range v.NumField() {
			out = append(out, slicesOf(v.Field(i))...)
		}
	}
	return out
}

// fresh fails a test if a result is another one when it has been overwritten, if it shares memory with the arguments, or if its slices share memory.
func fresh[A, T any](t *testing.T, name string, arguments func() A, get func(a A) (T, api.Errno)) {
	t.Helper()
	a := arguments()
	want, _ := get(arguments())
	first, e := get(a)
	memory := slicesOf(reflect.ValueOf(first))
	if e != api.OK || len(memory) == 0 {
		t.Error(name, first, e)
	}
	for i, a := range memory {
		for _, b := range memory[:i] {
			if a[0] < b[1] && b[0] < a[1] {
				t.Error(name, "has slices that share memory")
			}
		}
	}
	blot(reflect.ValueOf(&first).Elem())
	if got, _ := get(a); !reflect.DeepEqual(a, arguments()) || !reflect.DeepEqual(got, want) {
		t.Error(name, "shares memory:", got, "instead of", want)
	}
}

func TestResultsAreNewMemory(t *testing.T) {
	fresh(t, "Soonest", neighbours, func(l []api.Trail) ([]api.Arrival, api.Errno) { return crew.Soonest(l, at(0, 0), 0) })
	fresh(t, "Surest", neighbours, func(l []api.Trail) ([]api.Arrival, api.Errno) { return crew.Surest(l, at(0, 0), 0) })
	fresh(t, "Way", neighbours, func(l []api.Trail) ([]api.Stage, api.Errno) { return crew.Way(l, at(0, 0), at(10, 10), 0) })
	fresh(t, "Needed", neighbours, func(l []api.Trail) ([]int, api.Errno) { return crew.Needed(l, at(0, 0), at(10, 10), 0) })
	for _, s := range []api.Span{span(10, 20), span(0, 2), span(4, 4), span(150, 160), span(0, 1<<20)} {
		fresh(t, "Close", neighbours, func(l []api.Trail) ([]api.Trail, api.Errno) { return crew.Close(l, 1, s) })
		fresh(t, "Close of one that is open", neighbours, func(l []api.Trail) ([]api.Trail, api.Errno) { return crew.Close(l, 3, s) })
	}
	fresh(t, "Times", neighbours, func(l []api.Trail) ([][]int, api.Errno) { return crew.Times(l, someCrews(3), someBlazes(3), 0) })
	table := func() [][]int { return [][]int{{5, 9}, {4, -1}} }
	fresh(t, "Best", table, crew.Best)
	fresh(t, "Forced", table, crew.Forced)
}

// busy returns an office with orders of all sorts.
func busy(t *testing.T, l []api.Trail, crews []api.Crew, blazes []api.Blaze) *crew.Office {
	t.Helper()
	o, e := crew.New(l, crews)
	mustBe(t, e, api.OK, "New")
	for _, b := range blazes {
		mustBe(t, o.Do(tell(b)), api.OK, "tell")
	}
	for _, d := range []api.Deed{send(0), done(50, at(1, 1), 1), withdraw(88), send(2), done(50, at(1, 1), 3)} {
		mustBe(t, o.Do(d), api.OK, d)
	}
	return o
}

func TestOfficesShareNoMemory(t *testing.T) {
	o := busy(t, neighbours(), someCrews(3), someBlazes(3))
	ask := func() *crew.Office { return o }
	fresh(t, "Orders", ask, func(o *crew.Office) ([]api.Errand, api.Errno) { return o.Orders(), api.OK })
	fresh(t, "Crews", ask, func(o *crew.Office) ([]api.Crew, api.Errno) { return o.Crews(), api.OK })
	fresh(t, "Follows", ask, func(o *crew.Office) ([]int, api.Errno) { return o.Follows(1) })
}

// What is done with arguments later does not matter to an office.
func TestOfficesKeepNoArguments(t *testing.T) {
	l, crews, blazes := neighbours(), someCrews(3), someBlazes(4)
	o, clean := busy(t, l, crews, blazes), busy(t, neighbours(), someCrews(3), someBlazes(4))
	again := named(95, at(7, 9), at(9, 9))
	mustBe(t, o.Do(tell(again)), api.OK, "tell")
	mustBe(t, clean.Do(tell(named(95, at(7, 9), at(9, 9)))), api.OK, "tell")
	for _, v := range []any{&l, &crews, &blazes, &again} {
		blot(reflect.ValueOf(v).Elem())
	}
	for _, d := range []api.Deed{send(105), done(50, at(0, 0), 101), send(101), done(49, at(0, 0), 102), tell(named(77, at(48, 1))), send(102)} {
		if e, f := o.Do(d), clean.Do(d); e != f {
			t.Error(d, e, f)
		}
		if a, b := o.Orders(), clean.Orders(); !sameOrders(a, b) || !slices.Equal(o.Crews(), clean.Crews()) {
			t.Error(d, a, "instead of", b)
		}
	}
}

// Offices do not know of each other.
func TestOfficesAreApart(t *testing.T) {
	a := busy(t, neighbours(), someCrews(3), someBlazes(3))
	b := busy(t, neighbours(), someCrews(3), someBlazes(3))
	want := b.Orders()
	mustBe(t, a.Do(withdraw(90)), api.OK, "withdraw")
	if got := b.Orders(); !sameOrders(got, want) {
		t.Error(got, "instead of", want)
	}
}
