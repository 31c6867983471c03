package join_test

import (
	"slices"
	"testing"

	"firetower/api"
	"firetower/cell"
)

// What follows is written from the chapter alone, and package cell, so that the package can be held against it.

func at(x, y int) api.Place { return api.Place{X: x, Y: y} }

func span(lo, hi int) api.Span { return api.Span{Lo: lo, Hi: hi} }

// flat returns a map of the height 0.
func flat(wide, high int) api.Map {
	return api.Map{Wide: wide, High: high, Ground: make([]int, wide*high)}
}

// example returns the day of the chapter's examples.
func example() api.Day {
	return api.Day{
		Service: api.Service{
			Country: api.Country{Map: flat(9, 9), Towers: []api.Tower{{ID: 1}, {ID: 2, At: at(8, 0)}}},
			Circles: api.Circles{Circles: []api.Circle{{ID: 1, To: 1000}, {ID: 2, At: at(8, 0), To: 1000}}},
		},
		Long: 60,
		Reports: []api.Report{
			{ID: 1, Kind: api.ReSight, Tower: 1, Circle: 1, Tick: 100, From: 450, Slack: 10},
			{ID: 2, Kind: api.ReSight, Tower: 2, Circle: 2, Tick: 110, From: 1350, Slack: 10},
			{ID: 3, Kind: api.ReSight, Tower: 1, Circle: 1, Tick: 300, From: 450, Slack: 10},
		},
	}
}

// blank returns the blank of the chapter's examples.
func blank() api.Report {
	return api.Report{ID: 4, Kind: api.ReBlank, Tower: 1, Circle: 1, Tick: 105, From: 400, To: 500, Slack: 10}
}

// triangle returns a day with three sightings, of which each two can be of one smoke, but not all three.
func triangle() api.Day {
	d := example()
	d.Service.Country.Towers = append(d.Service.Country.Towers, api.Tower{ID: 3, At: at(0, 2)})
	d.Service.Circles.Circles = append(d.Service.Circles.Circles, api.Circle{ID: 3, At: at(0, 2), To: 1000})
	d.Reports[2] = api.Report{ID: 3, Kind: api.ReSight, Tower: 3, Circle: 3, Tick: 120, Slack: 10}
	return d
}

// more returns a day with further reports.
func more(d api.Day, l ...api.Report) api.Day {
	d.Reports = slices.Concat(d.Reports, l)
	return d
}

// less returns a day without the report with an ID.
func less(d api.Day, id int) api.Day {
	d.Reports = slices.DeleteFunc(slices.Clone(d.Reports), func(r api.Report) bool { return r.ID == id })
	return d
}

// parted returns sets of IDs.
func parted(p ...[]int) [][]int { return p }

// sameSets reports whether two lists of sets are the same.
func sameSets(a, b [][]int) bool { return slices.EqualFunc(a, b, slices.Equal[[]int]) }

// plainSightings returns the IDs of the sightings of a day.
func plainSightings(d api.Day) []int {
	var out []int
	for _, r := range d.Reports {
		if r.Kind == api.ReSight {
			out = append(out, r.ID)
		}
	}
	slices.Sort(out)
	return out
}

// isSet reports whether IDs are those of sightings of a day, at least one, and increase.
func isSet(d api.Day, ids []int) bool {
	for i, id := range ids {
		if !slices.Contains(plainSightings(d), id) || i > 0 && ids[i-1] >= id {
			return false
		}
	}
	return len(ids) > 0
}

// partOf reports whether all numbers of one list are in another one.
func partOf(a, b []int) bool {
	for _, n := range a {
		if !slices.Contains(b, n) {
			return false
		}
	}
	return true
}

// pairsOf returns all pairs of different IDs, in both orders.
func pairsOf(ids []int) [][2]int {
	var out [][2]int
	for _, a := range ids {
		for _, b := range ids {
			if a != b {
				out = append(out, [2]int{a, b})
			}
		}
	}
	return out
}

// plainSets returns all lists of some of the IDs, with at least one, in order.
func plainSets(ids []int) [][]int {
	var out [][]int
	for mask := 1; mask < 1<<len(ids); mask++ {
		var s []int
		for i, id := range ids {
			if mask>>i&1 == 1 {
				s = append(s, id)
			}
		}
		out = append(out, s)
	}
	slices.SortFunc(out, slices.Compare[[]int])
	return out
}

func plainBurn(d api.Day, ids []int) api.Burn {
	var ticks []int
	for _, r := range d.Reports {
		if slices.Contains(ids, r.ID) {
			ticks = append(ticks, r.Tick)
		}
	}
	return api.Burn{From: slices.Min(ticks), To: slices.Max(ticks), Rise: d.Rise}
}

func plainList(d api.Day, ids []int) []api.Report {
	var out []api.Report
	for _, r := range d.Reports {
		if r.Kind == api.ReBlank || slices.Contains(ids, r.ID) {
			out = append(out, r)
		}
	}
	return out
}

func plainLong(d api.Day, ids []int) bool {
	b := plainBurn(d, ids)
	return b.To-b.From > d.Long
}

// plainCell returns the cell of a set; nothing if the set is not possible.
func plainCell(d api.Day, ids []int) []api.Place {
	if plainLong(d, ids) {
		return nil
	}
	out, _ := cell.Places(d.Service, plainBurn(d, ids), plainList(d, ids))
	return out
}

// plainPartitions returns all partitions of IDs whose sets are possible, in order.
func plainPartitions(ids []int, possible func(ids []int) bool) [][][]int {
	var out [][][]int
	for _, indices := range choices(len(ids)) {
		p := make([][]int, slices.Max(append(slices.Clone(indices), -1))+1)
		for i, k := range indices {
			p[k] = append(p[k], ids[i])
		}
		if !slices.ContainsFunc(p, func(s []int) bool { return !possible(s) }) {
			out = append(out, p)
		}
	}
	return out
}

// choices returns, for each partition of n things, the indices of their sets, in order.
func choices(n int) [][]int {
	if n == 0 {
		return [][]int{nil}
	}
	var out [][]int
	for _, l := range choices(n - 1) {
		for k := range slices.Max(append(slices.Clone(l), -1)) + 2 {
			out = append(out, append(slices.Clone(l), k))
		}
	}
	slices.SortFunc(out, slices.Compare[[]int])
	return out
}

// plainBest returns those of some partitions that have the fewest sets.
func plainBest(l [][][]int) [][][]int {
	least := 8
	for _, p := range l {
		least = min(least, len(p))
	}
	return slices.DeleteFunc(slices.Clone(l), func(p [][]int) bool { return len(p) > least })
}

// plain is what the chapter says of a day.
type plain struct {
	d     api.Day
	ids   []int
	cells map[string][]api.Place
	all   [][][]int // the possible partitions
	best  [][][]int
}

func keyOf(ids []int) string {
	out := ""
	for _, id := range ids {
		out += string(rune(id)) + ","
	}
	return out
}

func plainly(d api.Day) plain {
	out := plain{d: d, ids: plainSightings(d), cells: map[string][]api.Place{}}
	for _, s := range plainSets(out.ids) {
		out.cells[keyOf(s)] = plainCell(d, s)
	}
	out.all = plainPartitions(out.ids, out.possible)
	out.best = plainBest(out.all)
	return out
}

func (x plain) cell(ids []int) []api.Place { return x.cells[keyOf(ids)] }

func (x plain) possible(ids []int) bool { return len(x.cell(ids)) > 0 }

// table returns the table of a day.
func (x plain) table() api.Joins {
	var out api.Joins
	sets := plainSets(x.ids)
	for _, s := range sets {
		larger := func(o []int) bool { return len(o) > len(s) && partOf(s, o) && x.possible(o) }
		smaller := func(o []int) bool { return len(o) < len(s) && partOf(o, s) && !x.possible(o) }
		if x.possible(s) && !slices.ContainsFunc(sets, larger) {
			out.Fits = append(out.Fits, api.Fit{IDs: s, At: x.cell(s)[0]})
		}
		if !x.possible(s) && !slices.ContainsFunc(sets, smaller) {
			m := api.Misfit{IDs: s}
			if !plainLong(x.d, s) {
				m.Reasons, _ = cell.Reasons(x.d.Service, plainBurn(x.d, s), plainList(x.d, s))
			}
			out.Misfits = append(out.Misfits, m)
		}
	}
	return out
}

// sameTables reports whether two tables are the same.
func sameTables(a, b api.Joins) bool {
	return slices.EqualFunc(a.Fits, b.Fits, func(x, y api.Fit) bool { return x.At == y.At && slices.Equal(x.IDs, y.IDs) }) &&
		slices.EqualFunc(a.Misfits, b.Misfits, func(x, y api.Misfit) bool {
			return slices.Equal(x.IDs, y.IDs) && slices.Equal(x.Reasons, y.Reasons)
		})
}

// plainProved reports whether a table is proved.
func plainProved(d api.Day, j api.Joins) bool {
	for _, f := range j.Fits {
		if !isSet(d, f.IDs) || plainLong(d, f.IDs) {
			return false
		}
		for _, r := range plainList(d, f.IDs) {
			if is, _ := cell.Allows(d.Service, plainBurn(d, f.IDs), r, f.At); !is {
				return false
			}
		}
	}
	for _, m := range j.Misfits {
		if !isSet(d, m.IDs) || plainLong(d, m.IDs) && len(m.Reasons) > 0 {
			return false
		}
		if !plainLong(d, m.IDs) && cell.CheckCell(d.Service, plainBurn(d, m.IDs), plainList(d, m.IDs), nil, m.Reasons) != api.OK {
			return false
		}
	}
	return !slices.ContainsFunc(plainSets(plainSightings(d)), func(s []int) bool {
		return !plainFits(j, s) && !slices.ContainsFunc(j.Misfits, func(m api.Misfit) bool { return partOf(m.IDs, s) })
	})
}

// plainFits reports whether a set fits by a table.
func plainFits(j api.Joins, ids []int) bool {
	return slices.ContainsFunc(j.Fits, func(f api.Fit) bool { return partOf(ids, f.IDs) })
}

// plainBy returns the partitions of IDs into the fewest sets that fit by a table.
func plainBy(ids []int, j api.Joins) [][][]int {
	return plainBest(plainPartitions(ids, func(s []int) bool { return plainFits(j, s) }))
}

// meets reports whether two IDs stand in one set of a partition.
func meets(p [][]int, a, b int) bool {
	return slices.ContainsFunc(p, func(s []int) bool { return slices.Contains(s, a) && slices.Contains(s, b) })
}

// plainSame returns the verdict by some partitions.
func plainSame(best [][][]int, a, b int) api.Verdict {
	var out api.Verdict
	for _, p := range slices.Backward(best) {
		if meets(p, a, b) {
			out.Together = p
		} else {
			out.Apart = p
		}
	}
	switch {
	case out.Apart == nil:
		out.Answer = api.Yes
	case out.Together == nil:
		out.Answer = api.No
	default:
		out.Answer = api.Open
	}
	return out
}

func sameVerdicts(a, b api.Verdict) bool {
	return a.Answer == b.Answer && sameSets(a.Together, b.Together) && sameSets(a.Apart, b.Apart)
}

// plainShows reports whether a verdict is proved by some partitions.
func plainShows(best [][][]int, a, b int, v api.Verdict) bool {
	right := func(p [][]int, meet, is bool) bool {
		if !is {
			return len(p) == 0
		}
		return slices.ContainsFunc(best, func(o [][]int) bool { return sameSets(p, o) }) && meets(p, a, b) == meet
	}
	want := plainSame(best, a, b).Answer
	return v.Answer == want && right(v.Together, true, want != api.No) && right(v.Apart, false, want != api.Yes)
}

// mustBe fails a test if an error is not the one that it should be.
func mustBe(t *testing.T, e, want api.Errno, what ...any) {
	t.Helper()
	if e != want {
		t.Error(append([]any{"error", e, "instead of", want, "of"}, what...)...)
	}
}

// counted fails a test if something that it should have met was too seldom.
func counted(t *testing.T, what string, n, least int) {
	t.Helper()
	if n < least {
		t.Error("only", n, what, "instead of", least)
	}
}
