package half_test

import (
	"slices"
	"testing"

	"firetower/api"
	"firetower/half"
)

// longer returns a list with more behind its end, and a function that says whether what lies there is still as it was.
func longer[T comparable](l []T, behind T) ([]T, func() bool) {
	long := append(slices.Clone(l), behind, behind, behind, behind, behind)
	kept := slices.Clone(long)
	return long[:len(l)], func() bool { return slices.Equal(long, kept) }
}

func TestArgumentsAreNotChanged(t *testing.T) {
	behind := api.Half{A: 9, B: 9, C: -9}
	l, sameSystem := longer(append(example(), api.Half{A: 2, B: 2, C: 20}, api.Half{A: 1, C: 20}), behind)
	m, sameOther := longer(append(example(), api.Half{A: -1, C: -7}, api.Half{A: 1, C: 40}), behind)
	uses, sameUses := longer([]api.Use{{Half: 0, Times: 1}, {Half: 1, Times: 1}}, api.Use{Half: 7, Times: 7})
	places, samePlaces := longer([]api.Place{{X: 4, Y: 1}, {X: 2, Y: 9}, {X: 4, Y: 1}, {X: 0, Y: 3}, {X: 3, Y: 3}}, api.Place{X: 48, Y: 48})
	for range 2 {
		half.Check(l)
		half.Allows(l, api.Corner{X: 60, Y: 60, Den: 1})
		half.Corners(l)
		half.Places(l)
		half.Best(l, api.Form{X: 3, Y: 1})
		half.CheckBest(l, api.Form{Y: 1}, api.Bound{Value: api.Frac{Num: 5, Den: 1}, At: api.Corner{X: 5, Y: 5, Den: 1}, Scale: 3, Uses: uses})
		half.Empty(l)
		half.CheckEmpty(l, uses)
		half.Core(l)
		half.Implied(l, api.Half{A: 1, C: 6})
		half.Spare(l)
		half.Thin(l)
		half.Same(l, m)
		half.Hull(places)
		l, m = m, l
	}
	for i, same := range []func() bool{sameSystem, sameOther, sameUses, samePlaces} {
		if !same() {
			t.Error("changed:", i)
		}
	}
}

// again calls a function a second time when its first result is overwritten, also behind its end.
func again[T comparable](t *testing.T, name string, get func() []T, other T) {
	t.Helper()
	first := get()
	want := slices.Clone(first)
	for i := range first[:cap(first)] {
		first[:cap(first)][i] = other
	}
	if got := get(); len(got) == 0 || !slices.Equal(got, want) {
		t.Error(name, got, "instead of", want)
	}
}

func TestResultsAreNewMemory(t *testing.T) {
	l := append(example(), api.Half{A: 2, B: 2, C: 20})
	m := append(example(), api.Half{A: -1, C: -7})
	one := []api.Place{{X: 7, Y: 3}}
	again(t, "Corners:", func() []api.Corner { out, _ := half.Corners(l); return out }, api.Corner{})
	again(t, "Corners of the map:", func() []api.Corner { out, _ := half.Corners(nil); return out }, api.Corner{})
	again(t, "Places:", func() []api.Place { out, _ := half.Places(l); return out }, api.Place{})
	again(t, "Best:", func() []api.Use { out, _ := half.Best(l, api.Form{X: 1, Y: 3}); return out.Uses }, api.Use{})
	again(t, "Best of the map:", func() []api.Use { out, _ := half.Best(nil, api.Form{X: 1, Y: 3}); return out.Uses }, api.Use{})
	again(t, "Empty:", func() []api.Use { out, _, _ := half.Empty(m); return out }, api.Use{})
	again(t, "Core:", func() []int { out, _ := half.Core(m); return out }, -1)
	again(t, "Spare:", func() []int { out, _ := half.Spare(l); return out }, -1)
	again(t, "Thin:", func() []int { out, _ := half.Thin(l); return out }, -1)
	again(t, "Hull:", func() []api.Half { out, _ := half.Hull(one); return out }, api.Half{})
	if !slices.Equal(l[:3], example()) || !slices.Equal(m[:3], example()) || one[0] != (api.Place{X: 7, Y: 3}) {
		t.Error("results share memory with arguments:", l, m, one)
	}
}

func TestEqualCallsGiveEqualResults(t *testing.T) {
	r := random(40)
	for range 100 {
		l, f := randomSystem(r, 10), randomForm(r)
		b, e := half.Best(l, f)
		uses, _, _ := half.Empty(l)
		for range 3 {
			c, d := half.Best(l, f)
			if d != e || c.Value != b.Value || c.At != b.At || c.Scale != b.Scale || !slices.Equal(c.Uses, b.Uses) {
				t.Fatal("Best:", l, f, b, c)
			}
			if u, _, _ := half.Empty(l); !slices.Equal(u, uses) {
				t.Fatal("Empty:", l, uses, u)
			}
		}
	}
}
