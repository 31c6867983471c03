package watch_test

import (
	"reflect"
	"slices"
	"testing"

	"firetower/api"
	"firetower/watch"
)

// longer returns a list with more behind its end, and a function that says whether what lies there is still as it was.
func longer[T any](l []T) ([]T, func() bool) {
	var behind T
	long := append(slices.Clone(l), behind, behind, behind)
	kept := slices.Clone(long)
	return long[:len(l)], func() bool { return reflect.DeepEqual(long, kept) }
}

func TestArgumentsAreNotChanged(t *testing.T) {
	w, o := rich(), right()
	var same [8]func() bool
	w.Lines[0].Except, same[0] = longer(w.Lines[0].Except)
	w.Lines, same[1] = longer(w.Lines)
	w.Orders[1].When.Kids[0].Kids, same[2] = longer(w.Orders[1].When.Kids[0].Kids)
	w.Orders[1].When.Kids, same[3] = longer(w.Orders[1].When.Kids)
	w.Orders, same[4] = longer(w.Orders)
	o.towers, same[5] = longer([]string{"south", "north"})
	l, unchanged := longer(versions(t))
	ofWatch(w, o)
	ofOrders(w.Orders, o)
	for _, order := range w.Orders {
		ofCond(order.When, o)
	}
	watch.Add(l, api.Version{ID: 2, From: 5, Watch: w})
	watch.InForce(l, 9)
	same[6], same[7] = unchanged, func() bool { return reflect.DeepEqual(l, versions(t)) }
	for i, is := range same {
		if !is() {
			t.Error("changed:", i)
		}
	}
}

// blot overwrites all that can be reached from a value, also behind the ends of slices.
func blot(v reflect.Value) {
	switch v.Kind() {
	case reflect.Slice:
		v = v.Slice(0, v.Cap())
		for i := range v.Len() {
			blot(v.Index(i))
		}
	case reflect.Struct:
		for i := range v.NumField() {
			blot(v.Field(i))
		}
	case reflect.Int:
		v.SetInt(-77)
	case reflect.String:
		v.SetString("blot")
	}
}

// slicesOf returns the memory of all slices that can be reached from a value: where each one begins, and where it ends.
func slicesOf(v reflect.Value) [][2]uintptr {
	var out [][2]uintptr
	switch v.Kind() {
	case reflect.Slice:
		if v.Cap() > 0 {
			out = append(out, [2]uintptr{v.Pointer(), v.Pointer() + uintptr(v.Cap())*v.Type().Elem().Size()})
		}
		for i := range v.Len() {
			out = append(out, slicesOf(v.Index(i))...)
		}
	case reflect.Struct:
		for i := range v.NumField() {
			out = append(out, slicesOf(v.Field(i))...)
		}
	}
	return out
}

// fresh fails a test if a result is another one when it has been overwritten, if it shares memory with the argument, or if its slices share memory.
func fresh[T any](t *testing.T, name string, get func(w api.Watch) (T, api.Errno)) {
	t.Helper()
	w := rich()
	want, _ := get(rich())
	first, e := get(w)
	memory := slicesOf(reflect.ValueOf(first))
	if e != api.OK || len(memory) == 0 {
		t.Error(name, first, e)
	}
	for i, a := range memory {
		for _, b := range memory[:i] {
			if a[0] < b[1] && b[0] < a[1] {
				t.Error(name, "has slices that share memory")
			}
		}
	}
	blot(reflect.ValueOf(&first).Elem())
	if got, _ := get(w); !reflect.DeepEqual(w, rich()) || !reflect.DeepEqual(got, want) {
		t.Error(name, "shares memory:", got, "instead of", want)
	}
}

func TestResultsAreNewMemory(t *testing.T) {
	days := span(0, 20)
	fresh(t, "Parse", func(w api.Watch) (api.Watch, api.Errno) {
		out, e, _ := watch.Parse(plainText(w))
		return out, e
	})
	fresh(t, "ParseCond", func(w api.Watch) (api.Cond, api.Errno) {
		out, e, _ := watch.ParseCond(plainCond(w.Orders[1].When))
		return out, e
	})
	fresh(t, "Duties", func(w api.Watch) ([]api.Duty, api.Errno) { return watch.Duties(w, 1) })
	fresh(t, "Who", func(w api.Watch) ([]string, api.Errno) { return watch.Who(w, 1, "north") })
	fresh(t, "Gaps", func(w api.Watch) ([]api.Duty, api.Errno) { return watch.Gaps(w, []string{"south"}, days) })
	fresh(t, "Doubles", func(w api.Watch) ([]api.Duty, api.Errno) { return watch.Doubles(w, days) })
	fresh(t, "Loads", func(w api.Watch) ([]api.Load, api.Errno) { return watch.Loads(w, days) })
	fresh(t, "Plain", func(w api.Watch) (api.Watch, api.Errno) { return watch.Plain(w, days) })
	fresh(t, "Inward", func(w api.Watch) (api.Cond, api.Errno) { return watch.Inward(w.Orders[1].When) })
	fresh(t, "Inward without CoNot", func(w api.Watch) (api.Cond, api.Errno) { return watch.Inward(w.Orders[0].When) })
	fresh(t, "Unused", func(w api.Watch) ([]int, api.Errno) { return watch.Unused(w.Orders) })
	fresh(t, "Add to", func(w api.Watch) ([]api.Version, api.Errno) {
		return watch.Add([]api.Version{{ID: 1, From: 1, Watch: w}}, api.Version{ID: 2, From: 5, Watch: w})
	})
	fresh(t, "InForce", func(w api.Watch) (api.Version, api.Errno) {
		return watch.InForce([]api.Version{{ID: 1, From: 1, Watch: w}}, 5)
	})
}

// Kids that share memory in an argument do not share it in a result.
func TestSharedKids(t *testing.T) {
	pair := both(api.CoAnd, is(api.FaCell, api.OpLess, 3), is(api.FaAge, api.OpMore, 3))
	shared := both(api.CoOr, pair, pair)
	fresh(t, "Inward", func(api.Watch) (api.Cond, api.Errno) { return watch.Inward(shared) })
	w := api.Watch{Orders: []api.Order{{Name: "a", When: shared}, {Name: "b", When: shared}}}
	fresh(t, "InForce", func(api.Watch) (api.Version, api.Errno) {
		return watch.InForce([]api.Version{{ID: 1, Watch: w}}, 5)
	})
	fresh(t, "Add", func(api.Watch) ([]api.Version, api.Errno) {
		return watch.Add([]api.Version{{ID: 1, Watch: w}}, api.Version{ID: 2, From: 1, Watch: w})
	})
}
