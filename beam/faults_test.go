package beam_test

import (
	"math"
	"slices"
	"strings"
	"testing"

	"firetower/api"
	"firetower/beam"
)

func lost(at int) api.Fault    { return api.Fault{Kind: api.FaLost, At: at} }
func doubled(at int) api.Fault { return api.Fault{Kind: api.FaDoubled, At: at} }
func swapped(at int) api.Fault { return api.Fault{Kind: api.FaSwapped, At: at} }

func TestP1_3Faulted(t *testing.T) {
	for _, x := range []struct {
		s, want string
		l       []api.Fault
	}{
		{".-/", ".-/", nil},
		{"", "", []api.Fault{}},
		{".-/", "../", []api.Fault{doubled(0), lost(1)}},
		{".-/", "../", []api.Fault{lost(1), doubled(0)}},
		{".-/", "./-", []api.Fault{swapped(1)}},
		{".-/", "-./", []api.Fault{swapped(0)}},
		{".-/", ".-//", []api.Fault{doubled(2)}},
		{".-/", "", []api.Fault{lost(2), lost(0), lost(1)}},
		{"../", "../", []api.Fault{swapped(0)}},
		{".-/.", "-../", []api.Fault{swapped(2), swapped(0)}},
		{"./-.", "/..", []api.Fault{swapped(0), lost(2)}},
		{".", "..", []api.Fault{doubled(0)}},
	} {
		if got, e := beam.Faulted(x.s, x.l); got != x.want || e != api.OK {
			t.Errorf("Faulted(%q, %v) = %q, %d, not %q", x.s, x.l, got, e, x.want)
		}
	}
	r := chance(13)
	for range 3000 {
		s := randomString(r, ".-/", 1+r.IntN(api.MaxFlash))
		l := randomFaults(r, len(s), r.IntN(1+len(s)/3))
		before := slices.Clone(l)
		if got, e := beam.Faulted(s, l); got != plainFaulted(s, l) || e != api.OK {
			t.Errorf("Faulted(%q, %v) = %q, %d", s, l, got, e)
		}
		if !slices.Equal(l, before) {
			t.Errorf("Faulted changed its faults: %v, now %v", before, l)
		}
	}
}

func TestP1_3FaultedLongest(t *testing.T) {
	var all []api.Fault
	for i := range longest {
		all = append(all, doubled(i))
	}
	want := ""
	for _, b := range longest {
		want += string(b) + string(b)
	}
	if got, e := beam.Faulted(longest, all); got != want || e != api.OK {
		t.Errorf("%q, %d", got, e)
	}
}

// faultErrors are lists of faults of the flashes `.-/` with their errors.
var faultErrors = []struct {
	why string
	l   []api.Fault
	e   api.Errno
}{
	{"no kind", []api.Fault{{Kind: 0, At: 0}}, api.ErrArg},
	{"no such kind", []api.Fault{{Kind: 4, At: 0}}, api.ErrArg},
	{"a kind below 0", []api.Fault{{Kind: -1, At: 0}}, api.ErrArg},
	{"ahead of the flashes", []api.Fault{lost(-1)}, api.ErrArg},
	{"ahead of the flashes, swapped", []api.Fault{swapped(-1)}, api.ErrArg},
	{"behind the flashes", []api.Fault{doubled(3)}, api.ErrArg},
	{"no next flash", []api.Fault{swapped(2)}, api.ErrArg},
	{"the greatest index", []api.Fault{lost(math.MaxInt)}, api.ErrArg},
	{"the greatest index, swapped", []api.Fault{swapped(math.MaxInt)}, api.ErrArg},
	{"the least index", []api.Fault{doubled(math.MinInt)}, api.ErrArg},
	{"twice lost", []api.Fault{lost(1), lost(1)}, api.ErrTwice},
	{"lost and doubled", []api.Fault{lost(0), doubled(2), doubled(0)}, api.ErrTwice},
	{"lost, and the second of a swap", []api.Fault{lost(1), swapped(0)}, api.ErrTwice},
	{"lost, and the first of a swap", []api.Fault{lost(1), swapped(1)}, api.ErrTwice},
	{"the first of a swap, and lost", []api.Fault{swapped(0), lost(0)}, api.ErrTwice},
	{"the second of a swap, and lost", []api.Fault{swapped(0), lost(1)}, api.ErrTwice},
	{"two swaps of one flash", []api.Fault{swapped(0), swapped(1)}, api.ErrTwice},
	{"the same swap twice", []api.Fault{swapped(1), swapped(1)}, api.ErrTwice},
	{"twice, then no kind", []api.Fault{lost(0), lost(0), {Kind: 9}}, api.ErrTwice},
	{"no kind, then twice", []api.Fault{lost(0), {Kind: 9}, lost(0)}, api.ErrArg},
	{"no kind, at a flash with a fault", []api.Fault{lost(0), {Kind: 9, At: 0}}, api.ErrArg},
	{"no next flash, at a flash with a fault", []api.Fault{lost(2), swapped(2)}, api.ErrArg},
	{"more faults than flashes", []api.Fault{lost(0), lost(1), lost(2), lost(0)}, api.ErrTwice},
}

func TestP1_3FaultedErrors(t *testing.T) {
	for _, x := range faultErrors {
		if got, e := beam.Faulted(".-/", x.l); got != "" || e != x.e {
			t.Errorf("%s: %q, %d, not %d", x.why, got, e, x.e)
		}
	}
	for s, want := range map[string]api.Errno{tooLong: api.ErrLimit, longAndNo: api.ErrLimit, badFlash: api.ErrForm, "": api.ErrArg} {
		if got, e := beam.Faulted(s, []api.Fault{{}}); got != "" || e != want {
			t.Errorf("Faulted(%q): %q, %d, not %d", s, got, e, want)
		}
	}
}

func TestP1_3CheckFaults(t *testing.T) {
	for _, x := range []struct {
		received string
		l        []api.Fault
		e        api.Errno
	}{
		{".-/", nil, api.OK},
		{"../", []api.Fault{lost(1), doubled(0)}, api.OK},
		{"./-", []api.Fault{swapped(1)}, api.OK},
		{"", []api.Fault{lost(0), lost(1), lost(2)}, api.OK},
		{"./", nil, api.ErrProof},
		{".-/", []api.Fault{lost(1)}, api.ErrProof},
		{".-//", nil, api.ErrProof},
		{"../", []api.Fault{doubled(0)}, api.ErrProof},
	} {
		before := slices.Clone(x.l)
		if e := beam.CheckFaults(".-/", x.received, x.l); e != x.e || !slices.Equal(x.l, before) {
			t.Errorf("CheckFaults(%q, %v) = %d, not %d", x.received, x.l, e, x.e)
		}
	}
	if e := beam.CheckFaults("../", "../", []api.Fault{swapped(0)}); e != api.OK {
		t.Error("equal flashes that change places:", e)
	}
	for _, x := range faultErrors {
		for _, received := range []string{".-/", "-/"} {
			if e := beam.CheckFaults(".-/", received, x.l); e != x.e {
				t.Errorf("%s: %d, not %d", x.why, e, x.e)
			}
		}
	}
}

// bothErrors are flashes sent and received with the error that comes ahead of all others.
var bothErrors = []struct {
	sent, received string
	e              api.Errno
}{
	{tooLong, badFlash, api.ErrLimit},
	{longAndNo, ".", api.ErrLimit},
	{badFlash, tooLong, api.ErrForm},
	{badFlash, ".", api.ErrForm},
	{".", tooLong, api.ErrLimit},
	{".", longAndNo, api.ErrLimit},
	{".", badFlash, api.ErrForm},
	{".", "./\n", api.ErrForm},
}

func TestP1_3And4ErrorsOfFlashes(t *testing.T) {
	for _, x := range bothErrors {
		if e := beam.CheckFaults(x.sent, x.received, []api.Fault{{}}); e != x.e {
			t.Errorf("CheckFaults(%q, %q) = %d, not %d", x.sent, x.received, e, x.e)
		}
		if n, is, e := beam.Fewest(x.sent, x.received); n != 0 || is || e != x.e {
			t.Errorf("Fewest(%q, %q) = %d, %v, %d, not %d", x.sent, x.received, n, is, e, x.e)
		}
		if l, e := beam.Explain(x.sent, x.received); len(l) != 0 || e != x.e {
			t.Errorf("Explain(%q, %q) = %v, %d, not %d", x.sent, x.received, l, e, x.e)
		}
	}
}

// checkExplained holds Fewest and Explain against the fewest faults (below 0: none will do).
func checkExplained(t *testing.T, sent, received string, want int) {
	t.Helper()
	n, is, e := beam.Fewest(sent, received)
	if e != api.OK || is != (want >= 0) || n != max(want, 0) {
		t.Fatalf("Fewest(%q, %q) = %d, %v, %d, not %d", sent, received, n, is, e, want)
	}
	l, e := beam.Explain(sent, received)
	if want < 0 {
		if e != api.ErrNone || len(l) != 0 {
			t.Fatalf("Explain(%q, %q) = %v, %d, not %d", sent, received, l, e, api.ErrNone)
		}
		return
	}
	by := func(a, b api.Fault) int { return a.At - b.At }
	if e != api.OK || len(l) != want || !slices.IsSortedFunc(l, by) {
		t.Fatalf("Explain(%q, %q) = %v, %d, not %d faults by At", sent, received, l, e, want)
	}
	if e := beam.CheckFaults(sent, received, l); e != api.OK {
		t.Fatalf("CheckFaults(%q, %q, %v) = %d", sent, received, l, e)
	}
}

func TestP1_4FewestAndExplain(t *testing.T) {
	for _, x := range []struct {
		sent, received string
		n              int
	}{
		{".-/", "-./", 1}, {".-/", "/", 2}, {"", "", 0}, {".", "", 1}, {"", ".", -1}, {".", "-", -1}, {".", "..", 1}, {".", "...", -1},
		{".-", "--", 2}, {".-", "-.-", -1}, {".-/", "/-.", -1}, {".-/", "-/.", -1}, {".-.-", "-.-.", 2}, {"..--", "-.-.", -1}, {longest, longest, 0}, {longest, "", api.MaxFlash},
		{"", longest, -1}, {longest[:50], longest, -1},
	} {
		checkExplained(t, x.sent, x.received, x.n)
	}
	for _, sent := range allStrings(".-/", 4) {
		becomes := plainResults(sent, len(sent))
		for _, received := range allStrings(".-/", 5) {
			n, is := becomes[received]
			if !is {
				n = -1
			}
			checkExplained(t, sent, received, n)
		}
	}
}

func TestP1_4FewestDoubled(t *testing.T) {
	half := strings.Repeat(".-/.-", 10)
	twice := ""
	for _, b := range half {
		twice += string(b) + string(b)
	}
	checkExplained(t, half, twice, 50)
}

func TestP1_4Results(t *testing.T) {
	if l, e := beam.Results(".-", 1); e != api.OK || !slices.Equal(l, []string{"-", "-.", ".", ".-", ".--", "..-"}) {
		t.Error(l, e)
	}
	for _, s := range append(allStrings(".-/", 5), longest[:30], mustSignal("cab"), strings.Repeat("../", 6)) {
		for faults := range api.MaxFaults + 1 {
			l, e := beam.Results(s, faults)
			if want := sortedKeys(plainResults(s, faults)); e != api.OK || !slices.Equal(l, want) {
				t.Fatalf("Results(%q, %d) = %q, %d, not %q", s, faults, l, e, want)
			}
		}
	}
	want := len(plainResults(longest, 2))
	if l, e := beam.Results(longest, 2); e != api.OK || len(l) != want || !slices.IsSorted(l) {
		t.Error(len(l), e, "not", want)
	}
}

func TestP1_4ResultsErrors(t *testing.T) {
	for _, x := range []struct {
		s      string
		faults int
		e      api.Errno
	}{
		{tooLong, 3, api.ErrLimit}, {longAndNo, -1, api.ErrLimit}, {badFlash, 3, api.ErrForm}, {badFlash, 1, api.ErrForm}, {".", 3, api.ErrArg}, {".", -1, api.ErrArg}, {"", math.MaxInt, api.ErrArg}, {"", math.MinInt, api.ErrArg},
	} {
		if l, e := beam.Results(x.s, x.faults); len(l) != 0 || e != x.e {
			t.Errorf("Results(%q, %d) = %q, %d, not %d", x.s, x.faults, l, e, x.e)
		}
	}
}

func TestP1_11Faults(t *testing.T) {
	r := chance(111)
	for range 1500 {
		s := randomString(r, ".-/", 1+r.IntN(60))
		l := randomFaults(r, len(s), r.IntN(1+len(s)/3))
		received, e := beam.Faulted(s, l)
		if e != api.OK || beam.CheckFaults(s, received, l) != api.OK {
			t.Fatal(s, l, e)
		}
		n, is, e := beam.Fewest(s, received)
		if e != api.OK || !is || n > len(l) {
			t.Fatalf("Fewest(%q, %q) = %d, %v, %d, with %v", s, received, n, is, e, l)
		}
		checkExplained(t, s, received, n)
	}
}
