package cell_test

import (
	"math"
	"math/rand/v2"
	"slices"
	"testing"

	"firetower/api"
	"firetower/cell"
)

// diagonal returns the places of the map of the examples that a sighting of the tower 1 in the north-east allows.
func diagonal() []api.Place {
	var out []api.Place
	for n := 1; n <= 20; n++ {
		out = append(out, at(n, n))
	}
	return out
}

func TestP6_3PlacesOfExamples(t *testing.T) {
	b, l := told()
	for i, x := range []struct {
		l    []api.Report
		want []api.Place
	}{
		{l[:2], []api.Place{at(10, 10)}}, {l[:1], diagonal()}, {[]api.Report{l[1], l[0]}, []api.Place{at(10, 10)}},
		{l, nil}, {nil, allPlaces(example().Country.Map)}, {[]api.Report{}, allPlaces(example().Country.Map)},
	} {
		if got, e := cell.Places(example(), b, x.l); !slices.Equal(got, x.want) || e != api.OK {
			t.Error(i, got, e)
		}
	}
}

func TestP6_3ReasonsOfExamples(t *testing.T) {
	b, l := told()
	got, e := cell.Reasons(example(), b, l[:2])
	if len(got) != 440 || e != api.OK || got[0] != (api.Reason{Report: 5}) || got[439] != (api.Reason{At: at(20, 20), Report: 6}) {
		t.Error(got, e)
	}
	for _, x := range got {
		if want := slices.Contains(diagonal(), x.At); want != (x.Report == 6) {
			t.Error(x)
		}
	}
	if got, e := cell.Reasons(example(), b, nil); len(got) != 0 || e != api.OK {
		t.Error(got, e)
	}
	// With the order of the reports the reasons change.
	got, e = cell.Reasons(example(), b, []api.Report{l[1], l[0]})
	if len(got) != 440 || e != api.OK || got[0].Report != 6 || got[439].Report != 6 || got[20] != (api.Reason{At: at(20, 0), Report: 6}) || got[40] != (api.Reason{At: at(19, 1), Report: 5}) {
		t.Error(got, e)
	}
}

func TestP6_3PlacesAndReasons(t *testing.T) {
	r := random(10)
	var few, empty, firsts int
	for range 500 {
		w := randomWorld(r, 12)
		l := w.mixed(r, 7)
		want := plainCell(w.s, w.b, l)
		if got, e := cell.Places(w.s, w.b, l); !slices.Equal(got, want) || e != api.OK {
			t.Fatal(w.s, w.b, l, got, e, "instead of", want)
		}
		reasons := plainReasons(w.s, w.b, l)
		if got, e := cell.Reasons(w.s, w.b, l); !slices.Equal(got, reasons) || e != api.OK {
			t.Fatal(w.s, w.b, l, got, e, "instead of", reasons)
		}
		if len(want) == 0 {
			empty++
		} else if len(want) < 10 && len(reasons) > 10 {
			few++
		}
		if slices.ContainsFunc(reasons, func(x api.Reason) bool { return x.Report != l[0].ID }) {
			firsts++
		}
	}
	counted(t, "small cells", few, 50)
	counted(t, "empty cells", empty, 50)
	counted(t, "lists with several reasons", firsts, 100)
}

// The widest and the highest maps, and as many reports as there can be.
func TestP6_3GreatestMaps(t *testing.T) {
	r := random(11)
	for _, m := range []api.Map{flat(49, 49, 0), flat(49, 1, 9), flat(1, 49, 9), flat(33, 49, 4000)} {
		w := randomWorld(r, 1)
		w.s.Country.Map, w.s.Country.Haze = m, nil
		w.b = api.Burn{To: 1 << 20, Rise: 10}
		w.smoke = at(m.Wide-1, m.High-1)
		w.s.Circles.Checks = nil
		l := named(r, w.truly(r, 24))
		if got, e := cell.Places(w.s, w.b, l); !slices.Equal(got, plainCell(w.s, w.b, l)) || e != api.OK || !slices.Contains(got, w.smoke) {
			t.Error(w.s.Country, l, got, e)
		}
		if got, e := cell.Reasons(w.s, w.b, l); !slices.Equal(got, plainReasons(w.s, w.b, l)) || e != api.OK {
			t.Error(w.s.Country, l, got, e)
		}
	}
	b, _ := told()
	if got, e := cell.Places(example(), b, many(24)); len(got) != 0 || e != api.OK {
		t.Error(got, e)
	}
}

func TestP6_3CheckCellOfExamples(t *testing.T) {
	s := example()
	b, l := told()
	ten := []api.Place{at(10, 10)}
	reasons, _ := cell.Reasons(s, b, l[:2])
	with := func(i int, x ...api.Reason) []api.Reason { return slices.Concat(reasons[:i], x, reasons[i+1:]) }
	corner := api.Reason{At: at(20, 20), Report: 6}
	for i, x := range []struct {
		places  []api.Place
		reasons []api.Reason
		e       api.Errno
	}{
		{ten, reasons, api.OK},
		{ten, with(1, api.Reason{At: at(1, 0), Report: 6}), api.OK}, // (1, 0) is excluded by both
		{ten, with(439, api.Reason{At: at(20, 20), Report: 5}), api.ErrProof},
		{ten, with(439, api.Reason{At: at(20, 20), Report: 7}), api.ErrProof},
		{ten, with(439, api.Reason{At: at(20, 20)}), api.ErrProof},
		{ten, with(439, api.Reason{At: at(20, 20), Report: math.MinInt}), api.ErrProof},
		{nil, reasons, api.ErrProof},
		{ten, nil, api.ErrProof},
		{nil, nil, api.ErrProof},
		{ten, reasons[1:], api.ErrProof},
		{ten, reasons[:439], api.ErrProof},
		{ten, with(200), api.ErrProof},
		{append(ten, at(20, 20)), reasons[:439], api.ErrProof},
		{append([]api.Place{{}}, ten...), reasons[1:], api.ErrProof},
		{append(ten, at(10, 10)), reasons, api.ErrProof},
		{append(ten, at(20, 20)), reasons, api.ErrProof},
		{append(ten, at(21, 20)), reasons, api.ErrProof},
		{append([]api.Place{{X: -1}}, ten...), reasons, api.ErrProof},
		{[]api.Place{at(10, 10), {}}, reasons[1:], api.ErrProof},
		{ten, append(slices.Clone(reasons), corner), api.ErrProof},
		{ten, append(slices.Clone(reasons), api.Reason{At: at(0, 21), Report: 6}), api.ErrProof},
		{ten, append([]api.Reason{{At: at(0, -1), Report: 6}}, reasons...), api.ErrProof},
		{ten, append([]api.Reason{reasons[1], reasons[0]}, reasons[2:]...), api.ErrProof},
		{ten, append(slices.Clone(reasons), api.Reason{At: at(10, 10), Report: 6}), api.ErrProof},
	} {
		if e := cell.CheckCell(s, b, l[:2], x.places, x.reasons); e != x.e {
			t.Error(i, e, "instead of", x.e)
		}
	}
	// With the report 7 the place (10, 10) is excluded.
	if e := cell.CheckCell(s, b, l, ten, reasons); e != api.ErrProof {
		t.Error(e)
	}
	whole := allPlaces(s.Country.Map)
	mustBe(t, cell.CheckCell(s, b, nil, whole, nil), api.OK)
	mustBe(t, cell.CheckCell(s, b, nil, whole[1:], []api.Reason{{}}), api.ErrProof)
}

// spoiled returns a proof in which one thing is wrong, but for reasons that can be exchanged.
func spoiled(r *rand.Rand, w world, l []api.Report, places []api.Place, reasons []api.Reason) ([]api.Place, []api.Reason) {
	places, reasons = slices.Clone(places), slices.Clone(reasons)
	i, k := r.IntN(len(places)+1), r.IntN(len(reasons)+1)
	switch n := r.IntN(7); {
	case n == 0 && i < len(places):
		places = slices.Delete(places, i, i+1)
	case n == 1 && k < len(reasons):
		reasons = slices.Delete(reasons, k, k+1)
	case n == 2:
		places = slices.Insert(places, i, placeOf(r, w.s.Country.Map))
	case n == 3 && k < len(reasons) && len(l) > 0:
		reasons[k].Report = l[r.IntN(len(l))].ID
	case n == 4 && i+1 < len(places):
		places[i], places[i+1] = places[i+1], places[i]
	case n == 5 && k < len(reasons):
		places = append(places, reasons[k].At)
		slices.SortFunc(places, byRow)
		reasons = slices.Delete(reasons, k, k+1)
	case n == 6 && i < len(places) && len(l) > 0:
		reasons = append(reasons, api.Reason{At: places[i], Report: l[r.IntN(len(l))].ID})
		slices.SortFunc(reasons, func(x, y api.Reason) int { return byRow(x.At, y.At) })
		places = slices.Delete(places, i, i+1)
	}
	return places, reasons
}

func byRow(p, q api.Place) int { return (p.Y-q.Y)*1000 + p.X - q.X }

// plainProved reports whether a cell is proved, sentence by sentence.
func plainProved(s api.Service, b api.Burn, l []api.Report, places []api.Place, reasons []api.Reason) bool {
	var excluded []api.Place
	for _, x := range reasons {
		excluded = append(excluded, x.At)
		if by := only(l, []int{x.Report}); len(by) != 1 || plainAllows(s, b, by[0], x.At) {
			return false
		}
	}
	for _, p := range places {
		if plainWhy(s, b, l, p) != 0 {
			return false
		}
	}
	both := slices.Concat(places, excluded)
	slices.SortFunc(both, byRow)
	return slices.IsSortedFunc(places, byRow) && slices.IsSortedFunc(excluded, byRow) && slices.Equal(both, allPlaces(s.Country.Map))
}

func TestP6_3CheckCell(t *testing.T) {
	r := random(12)
	var right, wrong int
	for range 300 {
		w := randomWorld(r, 8)
		l := w.mixed(r, 5)
		places, reasons := plainCell(w.s, w.b, l), plainReasons(w.s, w.b, l)
		for range 20 {
			p, x := spoiled(r, w, l, places, reasons)
			want := plainProved(w.s, w.b, l, p, x)
			if e := cell.CheckCell(w.s, w.b, l, p, x); (e == api.OK) != want || e != api.OK && e != api.ErrProof {
				t.Fatal(w.s, w.b, l, p, x, e, want)
			}
			if want {
				right++
			} else {
				wrong++
			}
		}
	}
	counted(t, "proofs", right, 500)
	counted(t, "proofs that are none", wrong, 2000)
}

func TestP6_4Least(t *testing.T) {
	_, l := told()
	sight := func(tick int) api.Report { return api.Report{Kind: api.ReSight, Tick: tick} }
	blank := func(tick int) api.Report { return api.Report{Kind: api.ReBlank, Tick: tick} }
	other := api.Report{Kind: 3, Tick: 1}
	for i, x := range []struct {
		l    []api.Report
		rise int
		want api.Burn
		e    api.Errno
	}{
		{l, 10, api.Burn{From: 20, To: 30, Rise: 10}, api.OK},
		{l[1:], 0, api.Burn{From: 30, To: 30}, api.OK},
		{l[2:], 10, api.Burn{}, api.ErrNone},
		{nil, 10, api.Burn{}, api.ErrNone},
		{[]api.Report{sight(0), sight(1 << 20)}, 200, api.Burn{To: 1 << 20, Rise: 200}, api.OK},
		{[]api.Report{sight(5), blank(1), sight(3), other, sight(4), blank(9)}, 7, api.Burn{From: 3, To: 5, Rise: 7}, api.OK},
		{[]api.Report{sight(5), blank(-1), blank(1<<20 + 1), sight(5)}, 7, api.Burn{From: 5, To: 5, Rise: 7}, api.OK},
		{[]api.Report{other, {Tick: 5}, blank(5)}, 7, api.Burn{}, api.ErrNone},
		{[]api.Report{sight(5), sight(-1)}, 7, api.Burn{}, api.ErrArg},
		{[]api.Report{sight(5), sight(1<<20 + 1), sight(6)}, 7, api.Burn{}, api.ErrArg},
		{[]api.Report{sight(math.MinInt), sight(math.MaxInt)}, 7, api.Burn{}, api.ErrArg},
		{l, -1, api.Burn{}, api.ErrArg}, {l, 201, api.Burn{}, api.ErrArg}, {l, math.MaxInt, api.Burn{}, api.ErrArg},
		{many(24), 10, api.Burn{From: 20, To: 30, Rise: 10}, api.OK},
		{many(25), 10, api.Burn{}, api.ErrLimit},
		{slices.Repeat([]api.Report{sight(6)}, 24), 10, api.Burn{From: 6, To: 6, Rise: 10}, api.OK},
		{many(25), 201, api.Burn{}, api.ErrArg},
		{slices.Repeat(l[2:], 25), 5, api.Burn{}, api.ErrLimit},
		{slices.Repeat([]api.Report{sight(-1)}, 25), 5, api.Burn{}, api.ErrLimit},
		{nil, -1, api.Burn{}, api.ErrArg},
	} {
		if got, e := cell.Least(x.l, x.rise); got != x.want || e != x.e {
			t.Error(i, got, e, "instead of", x.want, x.e)
		}
	}
}

// No shorter burn has the Ticks of all sightings.
func TestP6_4LeastHoldsAllSightings(t *testing.T) {
	r := random(13)
	for range 300 {
		w := randomWorld(r, 5)
		l := w.mixed(r, 8)
		b, e := cell.Least(l, w.b.Rise)
		var ticks []int
		for _, x := range l {
			if x.Kind == api.ReSight {
				ticks = append(ticks, x.Tick)
			}
		}
		slices.Sort(ticks)
		if len(ticks) == 0 {
			mustBe(t, e, api.ErrNone, l)
		} else if b != (api.Burn{From: ticks[0], To: ticks[len(ticks)-1], Rise: w.b.Rise}) || e != api.OK {
			t.Fatal(l, b, e)
		}
	}
}

func TestP6_5Examples(t *testing.T) {
	s := example()
	b, l := told()
	again := l[2]
	again.ID = 3
	// The sighting 9 is of nothing: it was before the smoke burned.
	early := l[0]
	early.ID, early.Tick = 9, 9
	for i, x := range []struct {
		l                      []api.Report
		core, suspects, needed []int
		e                      api.Errno
	}{
		{l, []int{5, 7}, []int{5, 7}, []int{5, 7}, api.OK},
		{[]api.Report{l[2], l[1], l[0]}, []int{5, 7}, []int{5, 7}, []int{5, 7}, api.OK},
		{l[:2], nil, nil, []int{5, 6}, api.ErrNone},
		{[]api.Report{l[1], l[0]}, nil, nil, []int{5, 6}, api.ErrNone},
		{nil, nil, nil, nil, api.ErrNone},
		{append(slices.Clone(l), again), []int{5, 7}, []int{5}, []int{5}, api.OK},
		{[]api.Report{early}, []int{9}, []int{9}, []int{9}, api.OK},
		{append(slices.Clone(l), early), []int{9}, nil, nil, api.OK},
		{[]api.Report{l[1], early}, []int{9}, []int{9}, []int{9}, api.OK},
		{[]api.Report{l[2], again}, nil, nil, nil, api.ErrNone},
	} {
		if got, e := cell.Core(s, b, x.l); !slices.Equal(got, x.core) || e != x.e {
			t.Error("Core:", i, got, e)
		}
		if got, e := cell.Suspects(s, b, x.l); !slices.Equal(got, x.suspects) || e != api.OK {
			t.Error("Suspects:", i, got, e)
		}
		if got, e := cell.Needed(s, b, x.l); !slices.Equal(got, x.needed) || e != api.OK {
			t.Error("Needed:", i, got, e)
		}
	}
}

func TestP6_5CoreSuspectsNeeded(t *testing.T) {
	r := random(14)
	var agree, long, suspect, spare int
	for range 500 {
		w := randomWorld(r, 8)
		l := w.mixed(r, 7)
		core, e := cell.Core(w.s, w.b, l)
		if plainAgree(w.s, w.b, l) {
			agree++
			if len(core) != 0 || e != api.ErrNone {
				t.Fatal(w.s, w.b, l, core, e)
			}
		} else if want := plainCore(w.s, w.b, l); !slices.Equal(core, want) || e != api.OK {
			t.Fatal(w.s, w.b, l, core, e, "instead of", want)
		}
		suspects := plainSuspects(w.s, w.b, l)
		if got, e := cell.Suspects(w.s, w.b, l); !slices.Equal(got, suspects) || e != api.OK {
			t.Fatal(w.s, w.b, l, got, e, "instead of", suspects)
		}
		needed := plainNeeded(w.s, w.b, l)
		if got, e := cell.Needed(w.s, w.b, l); !slices.Equal(got, needed) || e != api.OK {
			t.Fatal(w.s, w.b, l, got, e, "instead of", needed)
		}
		if len(core) > 1 && len(core) < len(l) {
			long++
		}
		if len(suspects) > 0 && len(l) > 1 {
			suspect++
		}
		if len(needed) > 0 && len(needed) < len(l) {
			spare++
		}
	}
	counted(t, "lists that agree", agree, 50)
	counted(t, "cores of several reports", long, 20)
	counted(t, "lists with suspects", suspect, 20)
	counted(t, "lists with reports that are not needed", spare, 50)
}
