package cell_test

import (
	"slices"
	"testing"

	"firetower/api"
	"firetower/cell"
	"firetower/half"
)

// The smoke of a world stands in the cell of all that can truly be told of it.
func TestP6_10Truth(t *testing.T) {
	r := random(50)
	var sights, blanks, small int
	for range 1500 {
		w := randomWorld(r, []int{3, 12, 49}[r.IntN(3)])
		l := w.truly(r, 8)
		got, e := cell.Places(w.s, w.b, l)
		if e != api.OK || !slices.Contains(got, w.smoke) {
			t.Fatal(w, l, got, e)
		}
		for _, x := range l {
			is, e := cell.Allows(w.s, w.b, x, w.smoke)
			if !is || e != api.OK {
				t.Fatal(w, x, is, e)
			}
			if x.Kind == api.ReSight {
				sights++
			} else {
				blanks++
			}
		}
		if 4*len(got) < w.s.Country.Map.Wide*w.s.Country.Map.High {
			small++
		}
	}
	counted(t, "sightings", sights, 1000)
	counted(t, "blanks", blanks, 1000)
	counted(t, "small cells", small, 300)
}

func TestP6_11ProofsAreAccepted(t *testing.T) {
	r := random(51)
	for range 300 {
		w := randomWorld(r, 15)
		l := w.mixed(r, 8)
		places, _ := cell.Places(w.s, w.b, l)
		reasons, _ := cell.Reasons(w.s, w.b, l)
		mustBe(t, cell.CheckCell(w.s, w.b, l, places, reasons), api.OK, w, l, places, reasons)
		// With any other reports that exclude the places it is a proof, too.
		for i, x := range reasons {
			for _, o := range shuffled(r, l) {
				if is, _ := cell.Allows(w.s, w.b, o, x.At); !is {
					reasons[i].Report = o.ID
					break
				}
			}
		}
		mustBe(t, cell.CheckCell(w.s, w.b, l, places, reasons), api.OK, w, l, places, reasons)
	}
}

// All choices of places and reasons of small maps are tried: what is accepted is the cell.
func TestP6_11OnlyTheCellIsAccepted(t *testing.T) {
	r := random(52)
	accepted := 0
	for range 60 {
		w := randomWorld(r, 2)
		l := w.mixed(r, 2)
		want := plainCell(w.s, w.b, l)
		all := allPlaces(w.s.Country.Map)
		var try func(i int, places []api.Place, reasons []api.Reason)
		try = func(i int, places []api.Place, reasons []api.Reason) {
			e := cell.CheckCell(w.s, w.b, l, places, reasons)
			if e == api.OK {
				accepted++
			}
			if e == api.OK && !slices.Equal(places, want) {
				t.Fatal(w, l, places, reasons)
			}
			if i == len(all) {
				return
			}
			try(i+1, places, reasons)
			try(i+1, append(slices.Clone(places), all[i]), reasons)
			for _, x := range l {
				try(i+1, places, append(slices.Clone(reasons), api.Reason{At: all[i], Report: x.ID}))
			}
		}
		try(0, nil, nil)
	}
	counted(t, "proofs that were accepted", accepted, 60)
}

func TestP6_12Bounds(t *testing.T) {
	r := random(53)
	var compared, exact int
	for range 400 {
		w := randomWorld(r, 20)
		l := w.mixed(r, 4)
		places, _ := cell.Places(w.s, w.b, l)
		if len(places) == 0 {
			continue
		}
		sides, _, _ := cell.Halves(w.s, w.b, l)
		hull, _ := cell.Hull(w.s, w.b, l)
		for _, p := range places {
			if !in(sides, p) || !in(hull, p) {
				t.Fatal(w, l, p, sides, hull)
			}
		}
		f := randomForm(r)
		most, _, _ := cell.Most(w.s, w.b, l, f)
		bound, e := cell.Bound(w.s, w.b, l, f)
		if e != api.OK || most*bound.Value.Den > bound.Value.Num {
			t.Fatal(w, l, f, most, bound, e)
		}
		compared++
		if most*bound.Value.Den == bound.Value.Num {
			exact++
		}
	}
	counted(t, "bounds", compared, 200)
	counted(t, "bounds that are attained", exact, 10)
}

func TestP6_12CornersOfHulls(t *testing.T) {
	r := random(54)
	n := 0
	for range 300 {
		w := randomWorld(r, 15)
		l := w.mixed(r, 4)
		hull, e := cell.Hull(w.s, w.b, l)
		if e != api.OK {
			continue
		}
		corners, e := half.Corners(hull)
		if e != api.OK {
			t.Fatal(hull, e)
		}
		for _, c := range corners {
			n++
			for _, x := range l {
				if is, e := cell.Allows(w.s, w.b, x, at(c.X, c.Y)); c.Den != 1 || !is || e != api.OK {
					t.Fatal(w, l, c, x, is, e)
				}
			}
		}
	}
	counted(t, "corners", n, 500)
}

func TestP6_13MoreReports(t *testing.T) {
	r := random(55)
	var fewer, same int
	for range 400 {
		w := randomWorld(r, 12)
		l := w.mixed(r, 6)
		places, _ := cell.Places(w.s, w.b, l)
		needed, _ := cell.Needed(w.s, w.b, l)
		for _, x := range l {
			without, _ := cell.Places(w.s, w.b, less(l, x.ID))
			for _, p := range places {
				if !slices.Contains(without, p) {
					t.Fatal(w, l, x, p)
				}
			}
			need := slices.Contains(needed, x.ID)
			if need == slices.Equal(places, without) {
				t.Fatal(w, l, x, need)
			}
			if need {
				fewer++
			} else {
				same++
			}
		}
	}
	counted(t, "reports that are needed", fewer, 100)
	counted(t, "reports that are not needed", same, 300)
}

// unordered returns all that does not depend on the order of the reports.
func unordered(w world, l []api.Report, f api.Form, x api.Look) []any {
	places, e1 := cell.Places(w.s, w.b, l)
	core, e2 := cell.Core(w.s, w.b, l)
	suspects, e3 := cell.Suspects(w.s, w.b, l)
	needed, e4 := cell.Needed(w.s, w.b, l)
	bound, e5 := cell.Bound(w.s, w.b, l, f)
	most, p, e6 := cell.Most(w.s, w.b, l, f)
	hull, e7 := cell.Hull(w.s, w.b, l)
	found, e8 := cell.Behind(w.s, w.b, l, x)
	return []any{places, e1, core, e2, suspects, e3, needed, e4, bound.Value, e5, most, p, e6, hull, e7, found, e8}
}

func TestP6_13OrderOfReports(t *testing.T) {
	r := random(56)
	other := 0
	for range 300 {
		w := randomWorld(r, 10)
		l := w.mixed(r, 6)
		m := shuffled(r, l)
		f, x := randomForm(r), w.anyLook(r)
		a, b := unordered(w, l, f, x), unordered(w, m, f, x)
		if !slices.EqualFunc(a, b, same) {
			t.Fatal(w, l, m, a, b)
		}
		first, _ := cell.Reasons(w.s, w.b, l)
		second, _ := cell.Reasons(w.s, w.b, m)
		if len(first) != len(second) {
			t.Fatal(w, l, m, first, second)
		}
		if !slices.Equal(first, second) {
			other++
		}
	}
	counted(t, "lists with other reasons", other, 50)
}

// same compares two results.
func same(a, b any) bool {
	switch x := a.(type) {
	case []api.Place:
		return slices.Equal(x, b.([]api.Place))
	case []int:
		return slices.Equal(x, b.([]int))
	case []api.Half:
		return slices.Equal(x, b.([]api.Half))
	}
	return a == b
}

// choices returns all choices of some reports.
func choices(l []api.Report) [][]api.Report {
	out := [][]api.Report{nil}
	for _, x := range l {
		for _, some := range slices.Clone(out) {
			out = append(out, append(slices.Clone(some), x))
		}
	}
	return out
}

func TestP6_14Cores(t *testing.T) {
	r := random(57)
	cores, suspected := 0, 0
	for range 400 {
		w := randomWorld(r, 8)
		l := w.mixed(r, 6)
		ids, e := cell.Core(w.s, w.b, l)
		suspects, _ := cell.Suspects(w.s, w.b, l)
		agree := func(l []api.Report) bool { places, _ := cell.Places(w.s, w.b, l); return len(places) > 0 }
		if e != api.OK {
			if !agree(l) || len(suspects) > 0 {
				t.Fatal(w, l, ids, e, suspects)
			}
			continue
		}
		cores++
		core := only(l, ids)
		if agree(core) {
			t.Fatal(w, l, ids)
		}
		for _, id := range ids {
			if !agree(less(core, id)) {
				t.Fatal(w, l, ids, id)
			}
		}
		for _, some := range choices(l) {
			for _, id := range suspects {
				suspected++
				if !agree(some) && !slices.Contains(idsOf(some), id) {
					t.Fatal(w, l, suspects, some)
				}
			}
		}
	}
	counted(t, "cores", cores, 100)
	counted(t, "choices with suspects", suspected, 1000)
}

func TestP6_16Looks(t *testing.T) {
	r := random(58)
	var attained, left int
	for range 1500 {
		w := randomWorld(r, 10)
		l := w.mixed(r, 3)
		x := w.look(r)
		found, e := cell.Behind(w.s, w.b, l, x)
		mustBe(t, e, api.OK, w, l, x)
		blank := blankOf(x)
		blank.ID = 99
		after, e := cell.Places(w.s, w.b, append(slices.Clone(l), blank))
		if len(after) != found.Blank || e != api.OK {
			t.Fatal(w, l, x, found, after, e)
		}
		most := 0
		for _, n := range []int{0, rest(x.To - x.From), r.IntN(rest(x.To-x.From) + 1), r.IntN(rest(x.To-x.From) + 1)} {
			sight := api.Report{ID: 99, Kind: api.ReSight, Tower: x.Tower, Circle: x.Circle, Tick: x.Tick, From: rest(x.From + n), Slack: x.Slack}
			after, e := cell.Places(w.s, w.b, append(slices.Clone(l), sight))
			if len(after) > found.Seen || e != api.OK {
				t.Fatal(w, l, x, found, sight, after, e)
			}
			most = max(most, len(after))
		}
		if most > 0 && most == found.Seen {
			attained++
		}
		if most > 0 {
			left++
		}
	}
	counted(t, "looks behind which as many places are left as can be", attained, 10)
	counted(t, "looks behind which places are left", left, 50)
}
