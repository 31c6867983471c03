package beam_test

import (
	"slices"
	"testing"

	"firetower/api"
	"firetower/beam"
)

// Results are new memory: what is written into one changes none that is returned later.
func TestResultsAreNewMemory(t *testing.T) {
	again(t, func() []string { l, _ := beam.Results(".-/", 2); return l }, "x")
	again(t, func() []api.Sent { l, _ := beam.Readings(".-/-./-./.-//", 2); return l }, api.Sent{})
	again(t, func() []api.Fault { l, _ := beam.Explain(".-/", "/"); return l }, api.Fault{})
	again(t, func() []int { l, _ := beam.Largest([]string{"a", "no", "e"}, 1); return l }, -1)
	again(t, func() []string { l, _, _ := beam.Split(".//-//./"); return l }, "x")
}

func again[T comparable](t *testing.T, get func() []T, other T) {
	t.Helper()
	first := get()
	want := slices.Clone(first)
	for i := range first {
		first[i] = other
	}
	if got := get(); len(got) == 0 || !slices.Equal(got, want) {
		t.Errorf("got %v, not %v", got, want)
	}
}

// Arguments stay as they are, also behind their end.
func TestArgumentsAreNotChanged(t *testing.T) {
	faults := []api.Fault{lost(2), doubled(0), swapped(7), lost(8)}
	l := slices.Clone(faults)
	beam.Faulted(".-/", l[:2])
	beam.CheckFaults(".-/", "..-", l[:2])
	book := []string{"smoke", "i", "e", "a", "n"}
	b := slices.Clone(book)
	beam.Apart(b[:3], 2)
	beam.Largest(b[:3], 2)
	if !slices.Equal(l, faults) || !slices.Equal(b, book) {
		t.Errorf("%v is now %v, %q is now %q", faults, l, book, b)
	}
}
