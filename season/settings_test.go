package season_test

import (
	"testing"

	"firetower/api"
	"firetower/season"
)

func TestP10_1RightSettings(t *testing.T) {
	empty := api.Setting{Wait: 1}
	empty.Service.Country.Map = api.Map{Wide: 1, High: 1, Ground: []int{0}}
	least, most := flat(), flat()
	least.Rise, least.Long, least.Wait = 0, 0, 1
	most.Rise, most.Long, most.Wait = 200, 1440, 1440
	for i, s := range []api.Setting{flat(), empty, least, most, posts(8)} {
		if e := season.CheckSetting(s); e != api.OK {
			t.Error(i, e)
		}
		if p, e := season.New(s); e != api.OK || p == nil {
			t.Error(i, e)
		}
	}
}

func TestP10_1WrongSettings(t *testing.T) {
	for _, x := range wrongSettings() {
		s := flat()
		x.do(&s)
		if e := season.CheckSetting(s); e != x.e {
			t.Error(x.name, e, "instead of", x.e)
		}
	}
}

// Of each two things that are wrong with a service and with the rest, the service comes first.
func TestP10_1ServicesFirst(t *testing.T) {
	for _, x := range wrongServices() {
		for _, y := range wrongOthers() {
			if y.name == "a check" || y.name == "nine towers" {
				continue
			}
			s := flat()
			y.do(&s)
			x.do(&s)
			if e := season.CheckSetting(s); e != x.e {
				t.Error(x.name, y.name, e, "instead of", x.e)
			}
		}
	}
}

// answered is the error of a function, and whether all its other results are zero.
type answered struct {
	e    api.Errno
	zero bool
}

// errors calls all functions that have a setting and an error, with other arguments that are right, or wrong.
func errors(s api.Setting, right bool) map[string]answered {
	x := api.Script{Setting: s, Commands: one()}
	l, entries, replies, now, q := []api.Version(nil), example(), make([]api.Reply, len(x.Commands)), 0, askSmokes(0)
	if !right {
		x.Commands, replies = make([]api.Command, 101), nil
		entries, l = make([]api.Entered, 641), make([]api.Version, 21)
	}
	out := map[string]answered{"CheckSetting": {season.CheckSetting(s), true}}
	d, refused, e := season.Fold(s, entries, 5)
	out["Fold"] = answered{e, zero(d) && len(refused) == 0}
	e, n := season.Check(x)
	out["Check"] = answered{e, n == -1}
	text, e := season.Print(x)
	out["Print"] = answered{e, text == ""}
	p, e := season.New(s)
	out["New"] = answered{e, p == nil}
	done, e := season.Run(x)
	out["Run"] = answered{e, len(done) == 0}
	lines, e := season.Transcript(x, replies)
	out["Transcript"] = answered{e, len(lines) == 0}
	r := season.Answer(s, entries, l, now, q)
	out["Answer"] = answered{r.Err, zero(own(0, r)) || r.Err != api.OK && same(r, api.Reply{Err: r.Err})}
	out["CheckAnswer"] = answered{season.CheckAnswer(s, entries, l, now, q, api.Reply{}), true}
	e, n = season.Accept(x, replies)
	out["Accept"] = answered{e, n == -1}
	return out
}

// All functions return the error of a setting first.
func TestP10_1SettingsBeforeAllElse(t *testing.T) {
	for _, x := range wrongSettings() {
		for _, right := range []bool{true, false} {
			s := flat()
			x.do(&s)
			for name, a := range errors(s, right) {
				if a.e != x.e || !a.zero {
					t.Error(name, "of", x.name, a, "instead of", x.e)
				}
			}
		}
	}
	for name, a := range errors(flat(), true) {
		if a.e != api.OK && name != "Accept" && name != "CheckAnswer" {
			t.Error(name, a)
		}
	}
	for name, a := range errors(flat(), false) {
		if a.e != api.ErrLimit && name != "CheckSetting" && name != "New" {
			t.Error(name, a)
		}
	}
}
