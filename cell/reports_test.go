package cell_test

import (
	"math"
	"testing"

	"firetower/api"
	"firetower/cell"
	"firetower/circle"
	"firetower/ridge"
)

func TestP6_1CheckOfRightServices(t *testing.T) {
	l := []api.Service{example(), rich(), {Country: example().Country}, {Country: api.Country{Map: flat(1, 1, 4000)}}, {Country: api.Country{Map: flat(49, 49, 0)}}}
	r := random(1)
	for range 300 {
		l = append(l, randomWorld(r, 49).s)
	}
	for _, s := range l {
		mustBe(t, cell.Check(s), api.OK, s)
	}
}

func TestP6_1CheckOfWrongServices(t *testing.T) {
	for _, x := range wrongServices() {
		s := rich()
		x.do(&s)
		mustBe(t, cell.Check(s), x.e, x.name)
	}
}

// The errors of a country and of circles are those that the layers below return.
func TestP6_1CheckIsThatOfTheLayersBelow(t *testing.T) {
	for _, x := range wrongServices() {
		s := rich()
		x.do(&s)
		e := ridge.Check(s.Country)
		if e == api.OK {
			e = circle.Check(s.Circles)
		}
		if e == api.OK {
			e = api.ErrNone
		}
		mustBe(t, cell.Check(s), e, x.name)
	}
}

func TestP6_1CheckReportOfRightOnes(t *testing.T) {
	s := rich()
	for _, r := range richReports() {
		mustBe(t, cell.CheckReport(s, r), api.OK, r)
	}
	for _, r := range many(24) {
		mustBe(t, cell.CheckReport(s, r), api.OK, r)
	}
	for _, r := range []api.Report{
		{ID: 1, Kind: api.ReSight, Tower: 1, Circle: 1, Slack: 1},
		{ID: 1 << 40, Kind: api.ReSight, Tower: 1, Circle: 1 << 40, Tick: 1 << 20, From: 3599, Slack: 100},
		{ID: 1, Kind: api.ReBlank, Tower: 1 << 40, Circle: 2, Tick: 1000, Slack: 1},
		{ID: 1, Kind: api.ReBlank, Tower: 2, Circle: 2, From: 3599, To: 3599, Slack: 100},
		{ID: 1, Kind: api.ReBlank, Tower: 2, Circle: 2, To: 900, Slack: 1},
		{ID: 1, Kind: api.ReBlank, Tower: 2, Circle: 2, From: 2700, Slack: 1},
		{ID: 1, Kind: api.ReBlank, Tower: 2, Circle: 2, From: 3599, To: 899, Slack: 1},
	} {
		mustBe(t, cell.CheckReport(s, r), api.OK, r)
	}
	r := random(2)
	for range 200 {
		w := randomWorld(r, 20)
		for _, x := range w.mixed(r, 10) {
			mustBe(t, cell.CheckReport(w.s, x), api.OK, w.s, x)
		}
	}
}

func TestP6_1CheckReportOfWrongOnes(t *testing.T) {
	for _, x := range wrongReports() {
		r := richReports()[0]
		x.do(&r)
		mustBe(t, cell.CheckReport(rich(), r), x.e, x.name, r)
		if w, is, e := cell.Sector(rich(), r); w != (api.Wedge{}) || is || e != x.e {
			t.Error("Sector:", x.name, w, is, e)
		}
	}
}

func TestP6_1ServiceBeforeReport(t *testing.T) {
	for _, x := range wrongServices() {
		s := rich()
		x.do(&s)
		for _, r := range []api.Report{richReports()[0], {}, {ID: 1, Kind: api.ReSight, Tower: 77, Circle: 1, Slack: 1}} {
			mustBe(t, cell.CheckReport(s, r), x.e, x.name)
			if w, is, e := cell.Sector(s, r); w != (api.Wedge{}) || is || e != x.e {
				t.Error("Sector:", x.name, w, is, e)
			}
		}
	}
}

func TestP6_2SectorOfExamples(t *testing.T) {
	_, l := told()
	for i, want := range []api.Wedge{wedge(449, 451), wedge(1349, 1351), wedge(301, 499)} {
		if w, is, e := cell.Sector(example(), l[i]); w != want || !is || e != api.OK {
			t.Error(l[i], w, is, e)
		}
	}
}

// The circle's zero is from -7 to 12 at the minute 60, so that a division is blurred by 19, and twice the slack.
func TestP6_2SectorsOfADriftingZero(t *testing.T) {
	s := example()
	s.Circles.Circles[0].Zero, s.Circles.Circles[0].Drift = span(-2, 7), 5
	sight := api.Report{ID: 1, Kind: api.ReSight, Tower: 1, Circle: 1, Tick: 60, From: 5, Slack: 3}
	if w, is, e := cell.Sector(s, sight); w != wedge(3590, 15) || !is || e != api.OK {
		t.Error(w, is, e)
	}
	for _, x := range []struct {
		from, to int
		want     api.Wedge
		is       bool
	}{
		{100, 200, wedge(110, 185), true}, {3590, 890, wedge(0, 875), true}, {100, 126, wedge(110, 111), true}, {100, 125, wedge(110, 110), true},
		{100, 124, api.Wedge{}, false}, {100, 100, api.Wedge{}, false}, {3590, 15, wedge(0, 0), true}, {3590, 14, api.Wedge{}, false}, {3580, 20, wedge(3590, 5), true},
	} {
		blank := api.Report{ID: 1, Kind: api.ReBlank, Tower: 1, Circle: 1, Tick: 60, From: x.from, To: x.to, Slack: 3}
		if w, is, e := cell.Sector(s, blank); w != x.want || is != x.is || e != api.OK {
			t.Error(x, w, is, e)
		}
	}
}

func TestP6_2Sector(t *testing.T) {
	r := random(3)
	var sure, none int
	for range 2000 {
		w := randomWorld(r, 49)
		x := w.anyReport(r)
		x.ID = 1
		want, has := plainSector(w.s, x)
		if got, is, e := cell.Sector(w.s, x); got != want || is != has || e != api.OK {
			t.Fatal(w.s, x, got, is, e, "instead of", want, has)
		}
		if x.Kind == api.ReBlank && has {
			sure++
		} else if x.Kind == api.ReBlank {
			none++
		}
	}
	counted(t, "blanks with a sure sector", sure, 200)
	counted(t, "blanks without one", none, 100)
}

// A bearing is surely looked over if it lies between what was shown whatever the zero is, and however wrong both readings are; it is one of a sighting if it can have been shown.
func TestP6_2SectorsByAllZeros(t *testing.T) {
	r := random(4)
	for range 60 {
		w := randomWorld(r, 9)
		x := w.anyReport(r)
		x.ID, x.Slack = 1, 1+r.IntN(5)
		z := zerosOf(w.s, x)
		got, is, _ := cell.Sector(w.s, x)
		for d := range 3600 {
			sure, can := true, false
			for n := z.Lo - x.Slack; n <= z.Hi+x.Slack; n++ {
				sure = sure && rest(d+n-x.From) <= rest(x.To-x.From)
				can = can || rest(d+n) == x.From
			}
			in := is && rest(d-got.From) <= rest(got.To-got.From)
			if x.Kind == api.ReBlank && in != sure || x.Kind == api.ReSight && in != can {
				t.Fatal(w.s, x, got, is, d, sure, can)
			}
		}
	}
}

func TestP6_2AllowsOfExamples(t *testing.T) {
	s := example()
	b, l := told()
	for _, x := range []struct {
		report int
		p      api.Place
		is     bool
	}{
		{0, at(7, 7), true}, {0, at(7, 8), false}, {0, at(0, 0), false}, {0, at(20, 20), true}, {1, at(7, 13), true}, {1, at(7, 7), false}, {1, at(20, 0), false},
		{2, at(7, 7), false}, {2, at(20, 1), true}, {2, at(0, 0), true}, {2, at(9, 6), true}, {2, at(9, 7), false},
	} {
		if is, e := cell.Allows(s, b, l[x.report], x.p); is != x.is || e != api.OK {
			t.Error(x, is, e)
		}
	}
}

// The tower 1 sees (7, 7) over a ridge, but only if it is clear, the smoke rises high enough, and it burns then.
func TestP6_2AllowsByWhatIsSeen(t *testing.T) {
	s := example()
	s.Country.Map.Ground[5*21+5] = 25
	s.Country.Haze = []api.Haze{{From: 30, To: 31, Far: 9}}
	sight := api.Report{ID: 5, Kind: api.ReSight, Tower: 1, Circle: 1, From: 450, Slack: 1}
	blank := api.Report{ID: 5, Kind: api.ReBlank, Tower: 1, Circle: 1, From: 400, To: 500, Slack: 1}
	for _, x := range []struct {
		tick, from, to, rise int
		sees                 bool
	}{
		{20, 20, 20, 23, true}, {20, 20, 20, 22, false}, {20, 20, 20, 200, true}, {20, 21, 40, 23, false}, {20, 0, 19, 23, false}, {20, 0, 20, 23, true}, {20, 20, 40, 23, true},
		{29, 0, 50, 23, true}, {30, 0, 50, 23, false}, {31, 0, 50, 23, false}, {32, 0, 50, 23, true},
	} {
		b := api.Burn{From: x.from, To: x.to, Rise: x.rise}
		sight.Tick, blank.Tick = x.tick, x.tick
		if is, e := cell.Allows(s, b, sight, at(7, 7)); is != x.sees || e != api.OK {
			t.Error("sighting:", x, is, e)
		}
		if is, e := cell.Allows(s, b, blank, at(7, 7)); is == x.sees || e != api.OK {
			t.Error("blank:", x, is, e)
		}
	}
}

func TestP6_2Allows(t *testing.T) {
	r := random(5)
	var sights, blanks, excluded int
	for range 300 {
		w := randomWorld(r, 12)
		for _, x := range w.mixed(r, 6) {
			for range 10 {
				p := placeOf(r, w.s.Country.Map)
				want := plainAllows(w.s, w.b, x, p)
				if is, e := cell.Allows(w.s, w.b, x, p); is != want || e != api.OK {
					t.Fatal(w.s, w.b, x, p, is, e, "instead of", want)
				}
				if want && x.Kind == api.ReSight {
					sights++
				} else if want {
					blanks++
				} else {
					excluded++
				}
			}
		}
	}
	counted(t, "places of sightings", sights, 200)
	counted(t, "places of blanks", blanks, 200)
	counted(t, "places that are excluded", excluded, 200)
}

func TestP6_2ErrorsOfAllows(t *testing.T) {
	b, _ := told()
	good := richReports()[0]
	nobody := good
	nobody.Tower = 7
	refused := func(name string, s api.Service, b api.Burn, r api.Report, p api.Place, want api.Errno) {
		t.Helper()
		if is, e := cell.Allows(s, b, r, p); is || e != want {
			t.Error(name, is, e, "instead of", want)
		}
	}
	for _, x := range wrongServices() {
		s := rich()
		x.do(&s)
		refused(x.name, s, api.Burn{From: -1}, nobody, at(-1, -1), x.e)
		refused(x.name, s, b, good, at(1, 1), x.e)
	}
	for _, wrong := range wrongBurns() {
		refused("burn", rich(), wrong, nobody, at(1, 1), api.ErrArg)
		refused("burn", rich(), wrong, good, at(1, 1), api.ErrArg)
	}
	for _, x := range wrongReports() {
		r := good
		x.do(&r)
		refused(x.name, rich(), b, r, at(1, 1), x.e)
		refused(x.name, rich(), b, r, at(-1, 21), x.e)
	}
	for _, p := range []api.Place{at(21, 0), at(0, 21), at(-1, 0), at(0, -1), at(48, 48), at(math.MaxInt, math.MaxInt), at(math.MinInt, 3)} {
		refused("place", rich(), b, good, p, api.ErrArg)
		refused("place", rich(), b, richReports()[2], p, api.ErrArg)
	}
}
