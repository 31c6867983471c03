package join_test

import (
	"reflect"
	"slices"
	"testing"

	"firetower/api"
	"firetower/join"
)

// longer returns a list with more behind its end, and a function that says whether what lies there is still as it was.
func longer[T any](l []T) ([]T, func() bool) {
	var behind T
	long := append(slices.Clone(l), behind, behind, behind)
	kept := slices.Clone(long)
	return long[:len(l)], func() bool { return reflect.DeepEqual(long, kept) }
}

func TestArgumentsAreNotChanged(t *testing.T) {
	d, o := rich(), right()
	d.Reports[0], d.Reports[4] = d.Reports[4], d.Reports[0]
	var same [14]func() bool
	country, circles := &d.Service.Country, &d.Service.Circles
	country.Map.Ground, same[0] = longer(country.Map.Ground)
	country.Towers, same[1] = longer(country.Towers)
	country.Haze, same[2] = longer(country.Haze)
	circles.Circles, same[3] = longer(circles.Circles)
	circles.Checks, same[4] = longer(circles.Checks)
	d.Reports, same[5] = longer(d.Reports)
	o.ids, same[6] = longer(o.ids)
	o.without, same[7] = longer([]int{1 << 40, 4, 1})
	o.j.Fits[0].IDs, same[8] = longer(o.j.Fits[0].IDs)
	o.j.Fits, same[9] = longer(o.j.Fits)
	o.j.Misfits, same[10] = longer(o.j.Misfits)
	o.p[0], same[11] = longer(o.p[0])
	o.p, same[12] = longer(o.p)
	o.v.Together, same[13] = longer(o.v.Together)
	answers(d, o)
	join.Least(o.ids, o.j)
	for i, is := range same {
		if !is() {
			t.Error("changed:", i)
		}
	}
}

// blot overwrites all that can be reached from a value, also behind the ends of slices.
func blot(v reflect.Value) {
	switch v.Kind() {
	case reflect.Slice:
		v = v.Slice(0, v.Cap())
		for i := range v.Len() {
			blot(v.Index(i))
		}
	case reflect.Struct:
		for i := range v.NumField() {
			blot(v.Field(i))
		}
	case reflect.Int:
		v.SetInt(-77)
	}
}

// slicesOf returns the memory of all slices that can be reached from a value: where each one begins, and where it ends.
func slicesOf(v reflect.Value) [][2]uintptr {
	var out [][2]uintptr
	switch v.Kind() {
	case reflect.Slice:
		if v.Cap() > 0 {
			out = append(out, [2]uintptr{v.Pointer(), v.Pointer() + uintptr(v.Cap())*v.Type().Elem().Size()})
		}
		for i := range v.Len() {
			out = append(out, slicesOf(v.Index(i))...)
		}
	case reflect.Struct:
		for i := range v.NumField() {
			out = append(out, slicesOf(v.Field(i))...)
		}
	}
	return out
}

// fresh fails a test if a result is another one when it has been overwritten, if it shares memory with the arguments, or if its slices share memory.
func fresh[T any](t *testing.T, name string, get func(d api.Day) (T, api.Errno)) {
	t.Helper()
	d := rich()
	want, _ := get(rich())
	first, e := get(d)
	memory := slicesOf(reflect.ValueOf(first))
	if e != api.OK || len(memory) == 0 {
		t.Error(name, first, e)
	}
	for i, a := range memory {
		for _, b := range memory[:i] {
			if a[0] < b[1] && b[0] < a[1] {
				t.Error(name, "has slices that share memory")
			}
		}
	}
	blot(reflect.ValueOf(&first).Elem())
	if got, _ := get(d); !reflect.DeepEqual(d, rich()) || !reflect.DeepEqual(got, want) {
		t.Error(name, "shares memory:", got, "instead of", want)
	}
}

func TestResultsAreNewMemory(t *testing.T) {
	open := blank()
	open.ID, open.Tick = 6, 350
	fresh(t, "Sightings", join.Sightings)
	fresh(t, "Cell", func(d api.Day) ([]api.Place, api.Errno) { return join.Cell(d, []int{1}) })
	fresh(t, "Table", join.Table)
	fresh(t, "Count", join.Count)
	fresh(t, "Partitions", func(d api.Day) ([][][]int, api.Errno) { return join.Partitions(d, 3) })
	fresh(t, "Same", func(d api.Day) (api.Verdict, api.Errno) { return join.Same(d, 1, 2) })
	fresh(t, "Proved", join.Proved)
	fresh(t, "Groups", join.Groups)
	fresh(t, "Stands", func(d api.Day) ([]api.Place, api.Errno) { return join.Stands(d, 3) })
	fresh(t, "With", func(d api.Day) (api.Day, api.Errno) { return join.With(d, open) })
	fresh(t, "Without", func(d api.Day) (api.Day, api.Errno) { return join.Without(d, []int{4}) })
	fresh(t, "Without no report", func(d api.Day) (api.Day, api.Errno) { return join.Without(d, nil) })
	look := blank()
	look.ID = 5
	fresh(t, "Rests", func(d api.Day) ([]int, api.Errno) { return join.Rests(more(d, look), 1, 2) })
}
