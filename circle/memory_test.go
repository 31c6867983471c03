package circle_test

import (
	"slices"
	"testing"

	"firetower/api"
	"firetower/circle"
)

// longer returns a list with more behind its end, and a function that says whether what lies there is still as it was.
func longer[T comparable](l []T, behind T) ([]T, func() bool) {
	long := append(slices.Clone(l), behind, behind, behind, behind, behind)
	kept := slices.Clone(long)
	return long[:len(l)], func() bool { return slices.Equal(long, kept) }
}

func TestArgumentsAreNotChanged(t *testing.T) {
	for _, c := range []api.Circles{three(), clashing()} {
		a := right()
		var same [4]func() bool
		c.Circles, same[0] = longer(c.Circles, api.Circle{ID: 77})
		c.Checks, same[1] = longer(c.Checks, api.Check{ID: 77})
		a.ids, same[2] = longer(a.ids, 77)
		a.zeros.Zero, same[3] = longer(a.zeros.Zero, 77)
		answers(c, a)
		circle.Check(c)
		circle.Fits(c, a.zeros)
		for i, is := range same {
			if !is() {
				t.Error("changed:", i)
			}
		}
	}
}

// again calls a function a second time when its first result is overwritten, also behind its end.
func again[T comparable](t *testing.T, name string, get func() []T, other T) {
	t.Helper()
	first := get()
	want := slices.Clone(first)
	for i := range first[:cap(first)] {
		first[:cap(first)][i] = other
	}
	if got := get(); len(got) == 0 || !slices.Equal(got, want) {
		t.Error(name, got, "instead of", want)
	}
}

func TestResultsAreNewMemory(t *testing.T) {
	c, d, a := three(), clashing(), right()
	again(t, "Clashes:", func() [][2]int { out, _ := circle.Clashes(d); return out }, [2]int{-1, -1})
	again(t, "Suspects:", func() []int { out, _ := circle.Suspects(d); return out }, -1)
	again(t, "Lowest:", func() []int { out, _ := circle.Lowest(c, 1, a.ticks); return out.Zero }, -1)
	again(t, "Highest:", func() []int { out, _ := circle.Highest(c, 1, a.ticks); return out.Zero }, -1)
	again(t, "Needed:", func() []int { out, _ := circle.Needed(c, a.r); return out }, -1)
	for _, ids := range [][]int{nil, {7}, {20}} {
		again(t, "Without, circles:", func() []api.Circle { out, _ := circle.Without(c, ids); return out.Circles }, api.Circle{})
		again(t, "Without, checks:", func() []api.Check { out, _ := circle.Without(c, ids); return out.Checks }, api.Check{})
	}
	for _, x := range [][2]api.Circles{{c, c}, {c, {}}, {{}, c}, {c, {Circles: c.Circles}}, {{Circles: c.Circles}, c}} {
		again(t, "Merge, circles:", func() []api.Circle { out, _ := circle.Merge(x[0], x[1]); return out.Circles }, api.Circle{})
		again(t, "Merge, checks:", func() []api.Check { out, _ := circle.Merge(x[0], x[1]); return out.Checks }, api.Check{})
	}
	if !sameCircles(c, three()) || !sameCircles(d, clashing()) {
		t.Error("results share memory with arguments:", c, d)
	}
}

// The order of circles and checks is of no account, but for that of the pairs of several circles.
func TestOrderOfCirclesIsOfNoAccount(t *testing.T) {
	r := random(40)
	for range 300 {
		c, _ := randomCircles(r, kind{circles: 3, checks: 8, long: 300, wild: r.IntN(8)})
		d := mixedUp(r, c)
		x := randomReading(r, c)
		z, e := circle.Zero(c, x.Circle, x.Tick)
		if y, f := circle.Zero(d, x.Circle, x.Tick); y != z || f != e {
			t.Fatal("Zero:", c, d, z, e, y, f)
		}
		lo, hi, e := circle.Rests(c, x.Circle, x.Tick)
		if l, h, f := circle.Rests(d, x.Circle, x.Tick); l != lo || h != hi || f != e {
			t.Fatal("Rests:", c, d, lo, hi, l, h)
		}
		needed, e := circle.Needed(c, x)
		if l, f := circle.Needed(d, x); !slices.Equal(l, needed) || f != e {
			t.Fatal("Needed:", c, d, needed, l)
		}
		suspects, e := circle.Suspects(c)
		if l, f := circle.Suspects(d); !slices.Equal(l, suspects) || f != e {
			t.Fatal("Suspects:", c, d, suspects, l)
		}
	}
}
