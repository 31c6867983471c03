package join_test

import (
	"math"
	"math/rand/v2"
	"slices"
	"testing"

	"firetower/api"
	"firetower/cell"
	"firetower/join"
)

func TestP7_3TableOfExamples(t *testing.T) {
	d := example()
	j, e := join.Table(d)
	want := api.Joins{
		Fits:    []api.Fit{{IDs: []int{1, 2}, At: at(4, 4)}, {IDs: []int{3}, At: at(1, 1)}},
		Misfits: []api.Misfit{{IDs: []int{1, 3}}, {IDs: []int{2, 3}}},
	}
	if !sameTables(j, want) || e != api.OK {
		t.Error(j, e)
	}
	d = more(d, blank())
	reasons, _ := cell.Reasons(d.Service, api.Burn{From: 100, To: 110}, slices.Concat(d.Reports[:2], d.Reports[3:]))
	want = api.Joins{
		Fits:    []api.Fit{{IDs: []int{1}, At: at(1, 1)}, {IDs: []int{2}, At: at(7, 1)}, {IDs: []int{3}, At: at(1, 1)}},
		Misfits: []api.Misfit{{IDs: []int{1, 2}, Reasons: reasons}, {IDs: []int{1, 3}}, {IDs: []int{2, 3}}},
	}
	if j, e = join.Table(d); !sameTables(j, want) || len(reasons) != 81 || e != api.OK {
		t.Error(j, e)
	}
}

func TestP7_3Triangle(t *testing.T) {
	d := triangle()
	reasons, _ := cell.Reasons(d.Service, api.Burn{From: 100, To: 120}, d.Reports)
	want := api.Joins{
		Fits:    []api.Fit{{IDs: []int{1, 2}, At: at(4, 4)}, {IDs: []int{1, 3}, At: at(2, 2)}, {IDs: []int{2, 3}, At: at(6, 2)}},
		Misfits: []api.Misfit{{IDs: []int{1, 2, 3}, Reasons: reasons}},
	}
	j, e := join.Table(d)
	if !sameTables(j, want) || len(reasons) != 81 || e != api.OK {
		t.Error(j, e)
	}
	mustBe(t, join.CheckTable(d, j), api.OK, j)
	mustBe(t, join.CheckTable(d, api.Joins{Fits: j.Fits}), api.ErrProof, "no misfit")
	mustBe(t, join.CheckTable(d, api.Joins{Fits: j.Fits[1:], Misfits: j.Misfits}), api.ErrProof, "a fit less")
}

// A sighting that is not possible alone is a misfit of its own, and so no part of another one.
func TestP7_3LonelyMisfits(t *testing.T) {
	d := example()
	d.Reports[1].From = 2700
	j, e := join.Table(d)
	if len(j.Fits) != 2 || len(j.Misfits) != 2 || e != api.OK {
		t.Fatal(j, e)
	}
	for i, want := range [][]int{{1, 3}, {2}} {
		if !slices.Equal(j.Misfits[i].IDs, want) || len(j.Misfits[i].Reasons) != 81*i {
			t.Error(j.Misfits[i], "instead of", want)
		}
	}
	mustBe(t, join.CheckTable(d, j), api.OK, j)
	d.Reports = nil
	if j, e := join.Table(d); !zeroTable(j) || e != api.OK {
		t.Error(j, e)
	}
	mustBe(t, join.CheckTable(d, api.Joins{}), api.OK, "no sightings")
}

// The order of a table is that of numbers: of 2, 3, 10 and 20 the set 2 10 comes behind 2 3, and 10 20 behind both.
func TestP7_3OrderOfTables(t *testing.T) {
	d := example()
	d.Long = 10
	d.Reports = nil
	for _, x := range []struct{ id, tick int }{{20, 125}, {2, 110}, {10, 120}, {3, 100}} {
		r := example().Reports[0]
		r.ID, r.Tick = x.id, x.tick
		d.Reports = append(d.Reports, r)
	}
	j, _ := join.Table(d)
	var fits, misfits [][]int
	for _, f := range j.Fits {
		fits = append(fits, f.IDs)
	}
	for _, m := range j.Misfits {
		misfits = append(misfits, m.IDs)
	}
	if !sameSets(fits, parted([]int{2, 3}, []int{2, 10}, []int{10, 20})) || !sameSets(misfits, parted([]int{2, 20}, []int{3, 10}, []int{3, 20})) {
		t.Error(fits, misfits)
	}
}

func TestP7_3Tables(t *testing.T) {
	r := random(10)
	var sizes [8]int
	var alone, pairs, triples, long int
	for range 400 {
		d := randomDay(r, 10, 7)
		want := plainly(d).table()
		j, e := join.Table(d)
		if !sameTables(j, want) || e != api.OK {
			t.Fatal(d, j, e, "instead of", want)
		}
		mustBe(t, join.CheckTable(d, j), api.OK, d, j)
		for _, f := range j.Fits {
			sizes[len(f.IDs)]++
		}
		for _, m := range j.Misfits {
			switch {
			case len(m.Reasons) == 0:
				long++
			case len(m.IDs) == 1:
				alone++
			case len(m.IDs) == 2:
				pairs++
			default:
				triples++
			}
		}
	}
	for n := 1; n <= 5; n++ {
		counted(t, "fits of some size", sizes[n], 20)
	}
	counted(t, "misfits of one", alone, 20)
	counted(t, "misfits of two", pairs, 100)
	counted(t, "misfits of three or more", triples, 8)
	counted(t, "misfits of too long burns", long, 100)
}

// tableOf returns the table of the example with its blank, and the day.
func tableOf() (api.Day, api.Joins) {
	d := more(example(), blank())
	j, _ := join.Table(d)
	return d, j
}

func TestP7_3WrongTables(t *testing.T) {
	for name, do := range map[string]func(j *api.Joins){
		"no table":                 func(j *api.Joins) { *j = api.Joins{} },
		"no fits":                  func(j *api.Joins) { j.Fits = nil },
		"no misfits":               func(j *api.Joins) { j.Misfits = nil },
		"a fit less":               func(j *api.Joins) { j.Fits = j.Fits[1:] },
		"a misfit less":            func(j *api.Joins) { j.Misfits = j.Misfits[:2] },
		"a place that is excluded": func(j *api.Joins) { j.Fits[0].At = at(1, 2) },
		"a place beside the map":   func(j *api.Joins) { j.Fits[0].At = at(9, 9) },
		"a place far off":          func(j *api.Joins) { j.Fits[0].At = at(math.MinInt, math.MaxInt) },
		"a fit too large":          func(j *api.Joins) { j.Fits[0].IDs = []int{1, 2} },
		"a fit too long":           func(j *api.Joins) { j.Fits[0].IDs = []int{1, 3} },
		"an empty fit":             func(j *api.Joins) { j.Fits = append(j.Fits, api.Fit{At: at(1, 1)}) },
		"a fit with a twin":        func(j *api.Joins) { j.Fits[0].IDs = []int{1, 1} },
		"a fit with a stranger":    func(j *api.Joins) { j.Fits[0].IDs = []int{1, 5} },
		"a fit with a blank":       func(j *api.Joins) { j.Fits[2].IDs = []int{3, 4} },
		"an empty misfit":          func(j *api.Joins) { j.Misfits = append(j.Misfits, api.Misfit{}) },
		"a misfit in no order":     func(j *api.Joins) { j.Misfits[1].IDs = []int{3, 1} },
		"a misfit with a stranger": func(j *api.Joins) { j.Misfits[1].IDs = []int{1, 3, 5} },
		"a misfit with a blank":    func(j *api.Joins) { j.Misfits[1].IDs = []int{1, 3, 4} },
		"a misfit that is none":    func(j *api.Joins) { j.Misfits = append(j.Misfits, api.Misfit{IDs: []int{1}}) },
		"a reason less":            func(j *api.Joins) { j.Misfits[0].Reasons = j.Misfits[0].Reasons[1:] },
		"no reasons":               func(j *api.Joins) { j.Misfits[0].Reasons = nil },
		"a reason by no report":    func(j *api.Joins) { j.Misfits[0].Reasons[0].Report = 7 },
		"a reason by a stranger":   func(j *api.Joins) { j.Misfits[0].Reasons[0].Report = 3 },
		"a reason that is none":    func(j *api.Joins) { j.Misfits[0].Reasons[0].Report = 4 },
		"a reason too many":        func(j *api.Joins) { j.Misfits[0].Reasons = append(j.Misfits[0].Reasons, api.Reason{Report: 1}) },
		"reasons in no order":      func(j *api.Joins) { slices.Reverse(j.Misfits[0].Reasons) },
		"reasons for a long burn":  func(j *api.Joins) { j.Misfits[1].Reasons = j.Misfits[0].Reasons },
		"one for a long burn":      func(j *api.Joins) { j.Misfits[2].Reasons = make([]api.Reason, 1) },
	} {
		d, j := tableOf()
		do(&j)
		mustBe(t, join.CheckTable(d, j), api.ErrProof, name)
		if plainProved(d, j) {
			t.Error(name)
		}
	}
}

// Where a smoke would have burned too long, no place shows that it can stand there, though all reports allow it.
func TestP7_3LongFits(t *testing.T) {
	for long, e := range map[int]api.Errno{60: api.ErrProof, 199: api.ErrProof, 200: api.OK} {
		d := example()
		d.Long = long
		j, _ := join.Table(d)
		j.Fits = append(j.Fits, api.Fit{IDs: []int{1, 3}, At: at(1, 1)})
		mustBe(t, join.CheckTable(d, j), e, long)
	}
}

// Tables other than the one that Table returns are proofs, too.
func TestP7_3OtherTables(t *testing.T) {
	for name, do := range map[string]func(j *api.Joins){
		"as it is":            func(j *api.Joins) {},
		"another order":       func(j *api.Joins) { slices.Reverse(j.Fits); slices.Reverse(j.Misfits) },
		"a fit twice":         func(j *api.Joins) { j.Fits = append(j.Fits, j.Fits[0]) },
		"another place":       func(j *api.Joins) { j.Fits[0].At = at(8, 8) },
		"127 fits":            func(j *api.Joins) { j.Fits = slices.Concat(j.Fits, slices.Repeat(j.Fits[:1], 124)) },
		"127 misfits":         func(j *api.Joins) { j.Misfits = slices.Concat(j.Misfits, slices.Repeat(j.Misfits[2:], 124)) },
		"a misfit too large":  func(j *api.Joins) { j.Misfits = append(j.Misfits, api.Misfit{IDs: []int{1, 2, 3}}) },
		"another reason":      func(j *api.Joins) { j.Misfits[0].Reasons[1].Report = 2 },
		"empty, but not nil":  func(j *api.Joins) { j.Misfits[1].Reasons = []api.Reason{} },
		"a misfit from afar":  func(j *api.Joins) { j.Misfits[1].IDs = append(make([]int, 0, 9), 1, 3) },
		"a misfit twice over": func(j *api.Joins) { j.Misfits = append(j.Misfits, j.Misfits...) },
	} {
		d, j := tableOf()
		do(&j)
		mustBe(t, join.CheckTable(d, j), api.OK, name)
	}
}

func TestP7_3TooLargeTables(t *testing.T) {
	d, j := tableOf()
	for _, n := range []int{128, 129, 10000} {
		for _, x := range []api.Joins{
			{Fits: slices.Repeat(j.Fits[:1], n), Misfits: j.Misfits}, {Fits: j.Fits, Misfits: slices.Repeat(j.Misfits[1:2], n)}, {Fits: make([]api.Fit, n)}, {Misfits: make([]api.Misfit, n)}, {Fits: make([]api.Fit, n), Misfits: make([]api.Misfit, n)},
		} {
			mustBe(t, join.CheckTable(d, x), api.ErrLimit, n)
		}
	}
	mustBe(t, join.CheckTable(d, api.Joins{Fits: make([]api.Fit, 127), Misfits: make([]api.Misfit, 127)}), api.ErrProof, "127 of both")
}

// bent returns a table with something changed.
func bent(r *rand.Rand, d api.Day, j api.Joins) api.Joins {
	j.Fits, j.Misfits = slices.Clone(j.Fits), slices.Clone(j.Misfits)
	sets := plainSets(plainSightings(d))
	s := sets[r.IntN(len(sets))]
	i, k := r.IntN(len(j.Fits)+1), r.IntN(len(j.Misfits)+1)
	switch r.IntN(8) {
	case 0:
		j.Fits = slices.Delete(j.Fits, max(i-1, 0), i)
	case 1:
		j.Misfits = slices.Delete(j.Misfits, max(k-1, 0), k)
	case 2:
		j.Fits = append(j.Fits, api.Fit{IDs: s, At: placeOf(r, d.Service.Country.Map)})
	case 3:
		// The burn can be too long.
		if l, _ := cell.Places(d.Service, plainBurn(d, s), plainList(d, s)); len(l) > 0 {
			j.Fits = append(j.Fits, api.Fit{IDs: s, At: l[r.IntN(len(l))]})
		}
	case 4:
		j.Misfits = append(j.Misfits, api.Misfit{IDs: s})
	case 5:
		reasons, _ := cell.Reasons(d.Service, plainBurn(d, s), plainList(d, s))
		j.Misfits = append(j.Misfits, api.Misfit{IDs: s, Reasons: reasons})
	case 6:
		if i < len(j.Fits) {
			j.Fits[i].At = placeOf(r, d.Service.Country.Map)
		}
	case 7:
		if k < len(j.Misfits) && len(j.Misfits[k].Reasons) > 0 {
			j.Misfits[k].Reasons = slices.Clone(j.Misfits[k].Reasons)
			j.Misfits[k].Reasons[r.IntN(len(j.Misfits[k].Reasons))].Report = d.Reports[r.IntN(len(d.Reports))].ID
		}
	}
	return j
}

func TestP7_3ProvedTables(t *testing.T) {
	r := random(11)
	var right, wrong int
	for range 150 {
		d := randomDay(r, 8, 5)
		if len(plainSightings(d)) == 0 {
			continue
		}
		j, _ := join.Table(d)
		for range 12 {
			x := bent(r, d, j)
			want := api.ErrProof
			if plainProved(d, x) {
				want, j = api.OK, x
				right++
			} else {
				wrong++
			}
			mustBe(t, join.CheckTable(d, x), want, d, x)
		}
	}
	counted(t, "proved tables", right, 200)
	counted(t, "other tables", wrong, 200)
}
