package cell_test

import (
	"slices"
	"testing"

	"firetower/api"
	"firetower/circle"
	"firetower/half"
	"firetower/ridge"
)

// What follows is written from the chapter alone, and the layers below, so that the package can be held against it.

func at(x, y int) api.Place { return api.Place{X: x, Y: y} }

func span(lo, hi int) api.Span { return api.Span{Lo: lo, Hi: hi} }

func wedge(from, to int) api.Wedge { return api.Wedge{From: from, To: to} }

// flat returns a map of one height.
func flat(wide, high, height int) api.Map {
	return api.Map{Wide: wide, High: high, Ground: slices.Repeat([]int{height}, wide*high)}
}

// example returns the service of the chapter's examples.
func example() api.Service {
	return api.Service{
		Country: api.Country{Map: flat(21, 21, 0), Towers: []api.Tower{{ID: 1, Height: 30}, {ID: 2, At: at(20, 0), Height: 30}}},
		Circles: api.Circles{Circles: []api.Circle{{ID: 1, To: 1000}, {ID: 2, At: at(20, 0), To: 1000}}},
	}
}

// told returns the burn and the reports 5, 6 and 7 of the chapter's examples.
func told() (api.Burn, []api.Report) {
	return api.Burn{From: 10, To: 50, Rise: 10}, []api.Report{
		{ID: 5, Kind: api.ReSight, Tower: 1, Circle: 1, Tick: 20, From: 450, Slack: 1},
		{ID: 6, Kind: api.ReSight, Tower: 2, Circle: 2, Tick: 30, From: 1350, Slack: 1},
		{ID: 7, Kind: api.ReBlank, Tower: 1, Circle: 1, Tick: 40, From: 300, To: 500, Slack: 1},
	}
}

// rest returns the division that a number is.
func rest(n int) int {
	n %= 3600
	if n < 0 {
		n += 3600
	}
	return n
}

// towerBy returns the tower of a report.
func towerBy(s api.Service, id int) api.Tower {
	i := slices.IndexFunc(s.Country.Towers, func(t api.Tower) bool { return t.ID == id })
	return s.Country.Towers[i]
}

// zerosOf returns the zeros of a report.
func zerosOf(s api.Service, r api.Report) api.Span {
	z, _ := circle.Zero(s.Circles, r.Circle, r.Tick)
	return z
}

// plainSector returns the sector of a sighting, or the sure sector of a blank, and whether there is one.
func plainSector(s api.Service, r api.Report) (api.Wedge, bool) {
	if r.Kind == api.ReSight {
		w, _ := circle.Wedge(s.Circles, api.Reading{Circle: r.Circle, Tick: r.Tick, Shown: r.From, Slack: r.Slack})
		return w, true
	}
	z := zerosOf(s, r)
	if rest(r.To-r.From) < 2*r.Slack+z.Hi-z.Lo {
		return api.Wedge{}, false
	}
	return wedge(rest(r.From+r.Slack-z.Lo), rest(r.To-r.Slack-z.Hi)), true
}

// plainSees reports whether a tower sees a place at a minute, for a burn.
func plainSees(s api.Service, b api.Burn, tower int, p api.Place, tick int) bool {
	sees, _ := ridge.Sees(s.Country, tower, p, b.Rise, tick)
	return b.From <= tick && tick <= b.To && sees
}

func plainAllows(s api.Service, b api.Burn, r api.Report, p api.Place) bool {
	w, is := plainSector(s, r)
	in := is && plainSees(s, b, r.Tower, p, r.Tick) && circle.Lies(w, towerBy(s, r.Tower).At, p)
	return in == (r.Kind == api.ReSight)
}

// allPlaces returns the places of a map by Y, then by X.
func allPlaces(m api.Map) []api.Place {
	var out []api.Place
	for y := range m.High {
		for x := range m.Wide {
			out = append(out, at(x, y))
		}
	}
	return out
}

// plainWhy returns the ID of the first report that excludes a place; 0 if none does.
func plainWhy(s api.Service, b api.Burn, l []api.Report, p api.Place) int {
	for _, r := range l {
		if !plainAllows(s, b, r, p) {
			return r.ID
		}
	}
	return 0
}

func plainCell(s api.Service, b api.Burn, l []api.Report) []api.Place {
	return slices.DeleteFunc(allPlaces(s.Country.Map), func(p api.Place) bool { return plainWhy(s, b, l, p) != 0 })
}

func plainReasons(s api.Service, b api.Burn, l []api.Report) []api.Reason {
	var out []api.Reason
	for _, p := range allPlaces(s.Country.Map) {
		if id := plainWhy(s, b, l, p); id != 0 {
			out = append(out, api.Reason{At: p, Report: id})
		}
	}
	return out
}

func plainAgree(s api.Service, b api.Burn, l []api.Report) bool { return len(plainCell(s, b, l)) > 0 }

// less returns the reports without one.
func less(l []api.Report, id int) []api.Report {
	return slices.DeleteFunc(slices.Clone(l), func(r api.Report) bool { return r.ID == id })
}

// only returns the reports that have some IDs.
func only(l []api.Report, ids []int) []api.Report {
	return slices.DeleteFunc(slices.Clone(l), func(r api.Report) bool { return !slices.Contains(ids, r.ID) })
}

// idsOf returns the IDs of all reports, in increasing order.
func idsOf(l []api.Report) []int {
	var out []int
	for _, r := range l {
		out = append(out, r.ID)
	}
	slices.Sort(out)
	return out
}

func plainCore(s api.Service, b api.Burn, l []api.Report) []int {
	for _, id := range idsOf(l) {
		if rest := less(l, id); !plainAgree(s, b, rest) {
			l = rest
		}
	}
	return idsOf(l)
}

func plainSuspects(s api.Service, b api.Burn, l []api.Report) []int {
	if plainAgree(s, b, l) {
		return nil
	}
	return slices.DeleteFunc(idsOf(l), func(id int) bool { return !plainAgree(s, b, less(l, id)) })
}

func plainNeeded(s api.Service, b api.Burn, l []api.Report) []int {
	n := len(plainCell(s, b, l))
	return slices.DeleteFunc(idsOf(l), func(id int) bool { return len(plainCell(s, b, less(l, id))) == n })
}

func plainHalves(s api.Service, l []api.Report) ([]api.Half, []int) {
	var out []api.Half
	var ids []int
	for _, r := range l {
		if r.Kind == api.ReSight {
			w, _ := plainSector(s, r)
			h, _ := circle.Halves(w, towerBy(s, r.Tower).At)
			out, ids = append(out, h[0], h[1]), append(ids, r.ID, r.ID)
		}
	}
	return out, ids
}

func plainMost(cell []api.Place, f api.Form) (int, api.Place) {
	var values []int
	for _, p := range cell {
		values = append(values, f.X*p.X+f.Y*p.Y)
	}
	most := slices.Max(values)
	return most, cell[slices.Index(values, most)]
}

// blankOf returns the blank of a look.
func blankOf(x api.Look) api.Report {
	return api.Report{ID: 1, Kind: api.ReBlank, Tower: x.Tower, Circle: x.Circle, Tick: x.Tick, From: x.From, To: x.To, Slack: x.Slack}
}

// wideOpening returns the opening of the wide sector of a look.
func wideOpening(s api.Service, x api.Look) int {
	z := zerosOf(s, blankOf(x))
	return rest(x.To-x.From) + 2*x.Slack + z.Hi - z.Lo
}

// plainBehind returns what is behind a valid look.
func plainBehind(s api.Service, b api.Burn, cell []api.Place, x api.Look) api.Found {
	z := zerosOf(s, blankOf(x))
	wide := wedge(rest(x.From-x.Slack-z.Hi), rest(x.To+x.Slack-z.Lo))
	var out api.Found
	for _, p := range cell {
		if plainSees(s, b, x.Tower, p, x.Tick) && circle.Lies(wide, towerBy(s, x.Tower).At, p) {
			out.Seen++
		}
		if plainAllows(s, b, blankOf(x), p) {
			out.Blank++
		}
	}
	return out
}

// in reports whether a place lies in all of some half-planes.
func in(l []api.Half, p api.Place) bool {
	for _, h := range l {
		if !half.Holds(h, half.Of(p)) {
			return false
		}
	}
	return true
}

// mustBe fails a test if an error is not the one that it should be.
func mustBe(t *testing.T, e, want api.Errno, what ...any) {
	t.Helper()
	if e != want {
		t.Error(append([]any{"error", e, "instead of", want, "of"}, what...)...)
	}
}

// counted fails a test if something that it should have met was too seldom.
func counted(t *testing.T, what string, n, least int) {
	t.Helper()
	if n < least {
		t.Error("only", n, what, "instead of", least)
	}
}
