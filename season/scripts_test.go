package season_test

import (
	"slices"
	"strings"
	"testing"

	"firetower/api"
	"firetower/season"
)

func script(l ...api.Command) api.Script { return api.Script{Setting: flat(), Commands: l} }

func TestP10_5RightCommands(t *testing.T) {
	for _, c := range rightCommands() {
		if e, n := season.Check(script(c)); e != api.OK || n != -1 {
			t.Errorf("%+v: %d %d", c, e, n)
		}
	}
	for _, n := range []int{0, 1, 99, 100} {
		if e, n := season.Check(script(slices.Repeat([]api.Command{tick(1)}, n)...)); e != api.OK || n != -1 {
			t.Error(e, n)
		}
	}
}

func TestP10_5WrongCommands(t *testing.T) {
	for _, c := range wrongCommands() {
		for _, before := range []int{0, 3} {
			l := append(slices.Clone(one()[:before]), c, tick(3), api.Command{})
			if e, n := season.Check(script(l...)); e != api.ErrArg || n != before {
				t.Errorf("%+v: %d %d", c, e, n)
			}
		}
	}
}

func TestP10_5Limit(t *testing.T) {
	for _, l := range [][]api.Command{make([]api.Command, 101), slices.Repeat([]api.Command{tick(1)}, 101), make([]api.Command, 1000)} {
		if e, n := season.Check(script(l...)); e != api.ErrLimit || n != -1 {
			t.Error(len(l), e, n)
		}
	}
	l := append(slices.Repeat([]api.Command{tick(1)}, 99), api.Command{})
	if e, n := season.Check(script(l...)); e != api.ErrArg || n != 99 {
		t.Error(e, n)
	}
}

func TestP10_6Print(t *testing.T) {
	want := "tick 5\ntell 1 s 5 1 20 450 1\nmail 1\nlose 2\ndouble 3\ncrash 1\ntear 1 0 1 7\nfetch 2\n" +
		"adopt 3 watch north by ann from 1 to 9; order send if cell <= 9; order look rank 1 if free = 1;\n" +
		"cell 40 5 6\nsame 40 5 6\nsmokes 40\nsend 50 40\nduty 3 north\norder 5 40\n"
	if text, e := season.Print(script(one()...)); text != settingText()+want || e != api.OK {
		t.Error(text, e)
	}
	if s, e := season.Parse(settingText() + want); !same(s, script(one()...)) || e != api.OK {
		t.Error(s, e)
	}
	for line, c := range map[string]api.Command{
		"office 2 9 8 100":                     tearCopy(2, 9, 8, 100),
		"tear 2 9 8 100":                       tear(2, 9, 8, 100),
		"adopt 400":                            adopt(400, ""),
		"tell 1 x 80":                          tell(1, back(80)),
		"tell 1099511627776 b 8 2 0 3500 20 1": tell(1<<40, blank(8, 2, 0, 3500, 20)),
		"tell 2 m 9 1 5 3 4 0 1":               tell(2, mark(9, 1, 5, at(3, 4), 0)),
		"cell 0 1 2 3 4 5 6 10000":             askCell(0, 1, 2, 3, 4, 5, 6, 10000),
		"adopt 0 order far if age > 100 and (hour < 6 or not seen = 1);": adopt(0, sources()[3]),
	} {
		if text, e := season.Print(script(c)); text != settingText()+line+"\n" || e != api.OK {
			t.Error(line, text, e)
		}
		if s, e := season.Parse(settingText() + line + "\n"); !same(s, script(c)) || e != api.OK {
			t.Error(line, s.Commands, e)
		}
	}
}

// rich returns a setting with something of each kind, and negative numbers.
func rich() (api.Setting, string) {
	s := flat()
	s.Service.Country.Map = api.Map{Wide: 3, High: 2, Ground: []int{0, 4000, 3, 2, 1, 9}}
	s.Service.Country.Haze = []api.Haze{{From: 0, To: 5, Far: 100}, {From: 6, To: 1 << 20, Far: 0}}
	s.Service.Country.Towers = []api.Tower{{ID: 1 << 40, At: at(2, 1), Height: 200}, {ID: 1}}
	s.Service.Circles.Circles = []api.Circle{{ID: 9, At: at(2, 1), From: 7, To: 1 << 20, Zero: span(-300, -2), Drift: 60}, {ID: 8, Zero: span(-1, 300)}}
	s.Trails = []api.Trail{{ID: 7, A: at(48, 0), B: at(0, 48), Fast: 1, Slow: 1440, Closed: []api.Span{span(0, 0), span(2, 1<<20)}}, {ID: 6, A: at(1, 0), Fast: 2, Slow: 2}}
	s.Crews = []api.Crew{{ID: 5, At: at(48, 47), Free: 1 << 20}, {ID: 6}}
	s.Rise, s.Long, s.Wait = 200, 1440, 1
	return s, "season 200 1440 1\nmap 3 2 0 4000 3 2 1 9\nhaze 0 5 100\nhaze 6 1048576 0\ntower 1099511627776 2 1 200\ntower 1 0 0 0\n" +
		"circle 9 2 1 7 1048576 -300 -2 60\ncircle 8 0 0 0 0 -1 300 0\ntrail 7 48 0 0 48 1 1440 0 0 2 1048576\ntrail 6 1 0 0 0 2 2\ncrew 5 48 47 1048576\ncrew 6 0 0 0\n"
}

func TestP10_6Settings(t *testing.T) {
	s, want := rich()
	if text, e := season.Print(api.Script{Setting: s}); text != want || e != api.OK {
		t.Error(text, e)
	}
	if x, e := season.Parse(want); !same(x, api.Script{Setting: s}) || e != api.OK {
		t.Error(x, e)
	}
	empty := api.Setting{Wait: 1}
	empty.Service.Country.Map = api.Map{Wide: 1, High: 1, Ground: []int{7}}
	if text, e := season.Print(api.Script{Setting: empty}); text != "season 0 0 1\nmap 1 1 7\n" || e != api.OK {
		t.Error(text, e)
	}
	if x, e := season.Parse("season 0 0 1\nmap 1 1 7\n"); !same(x, api.Script{Setting: empty}) || e != api.OK {
		t.Error(x, e)
	}
}

func TestP10_6PrintErrors(t *testing.T) {
	for _, c := range wrongCommands() {
		if text, e := season.Print(script(tick(1), c)); text != "" || e != api.ErrArg {
			t.Errorf("%+v: %q %d", c, text, e)
		}
	}
	if text, e := season.Print(script(make([]api.Command, 101)...)); text != "" || e != api.ErrLimit {
		t.Error(text, e)
	}
}

// What of a script is wrong cannot be read.
func TestP10_6ParseNoScripts(t *testing.T) {
	refused := func(text string) {
		t.Helper()
		if s, e := season.Parse(text); !zero(s) || e != api.ErrForm {
			t.Error(text[:min(len(text), 60)], text[max(0, len(text)-60):], s.Commands, e)
		}
	}
	for _, c := range slices.Concat(wrongNumbers(), wrongIDs()) {
		refused(plainPrint(script(c)))
	}
	for _, x := range wrongEntries() {
		line := "1 " + plainWords(x)
		if _, is := plainRead(plainText(x)); !is {
			refused(settingText() + "tell " + line + "\n")
		}
	}
	for _, x := range wrongSettings() {
		s := flat()
		x.do(&s)
		if len(s.Service.Circles.Checks) == 0 {
			refused(plainPrint(api.Script{Setting: s}))
		}
	}
	refused(plainPrint(script(slices.Repeat([]api.Command{tick(1)}, 101)...)))
	for _, s := range []string{"", "\n", "\n\n", "season 10 60 10\n", "season 10 60 10", "map 1 1 0\n", "season 10 60 10\nmap 0 0\n", "season 10 60 10\nmap\n", "season 10 60 10\nmap 1 1\n"} {
		refused(s)
	}
	for _, s := range []string{
		"\n", " \n", "tick 5", "tick 05\n", "tick +5\n", "tick -0\n", "tick  5\n", " tick 5\n", "tick 5 \n", "tick 5\r\n", "tick\t5\n", "tick 5\n\n", "\ntick 5\n", "ticks 5\n", "Tick 5\n", "tick\n",
		"tick 5 6\n", "tick x\n", "tick 1e1\n", "tick 99999999999999999999\n", "tell 1\n", "tell 1 s 5 1 20 450\n", "tell 1 s 5 1 20 450 1 1\n", "tell 1 17 s 5 1 20 450 1\n", "tell 0 x 1\n",
		"tell 1 x\n", "tell 1 y 1\n", "tell x 1\n", "tell 1 x 1 2\n", "tell 1 b 5 1 20 450 1\n", "mail 0\n", "mail\n", "tear 1 10 0 0\n", "tear 1 0 9 0\n", "tear 1 0 0 101\n", "tear 1 0 0\n",
		"office 1 0 0\n", "office 1 0 0 0 0\n", "tear office 1 0 0 0\n", "adopt 401\n", "adopt\n", "adopt 3 \n", "adopt 3 watch\n", "adopt 3 watch north by ann on 3;order send if cell <= 9;\n",
		"adopt 3 watch north by ann on 3; \n", "adopt 3 watch  north by ann on 3;\n", "adopt 3 watch north by ann on 3 ;\n", "adopt 3 # x\n", "adopt 3 watch\tnorth by ann on 3;\n", "cell 40\n",
		"cell 40 \n", "cell 40 6 5\n", "same 40 5\n", "same 40 5 6 7\n", "same 40 6 5\n", "smokes\n", "smokes 1 2\n", "send 1\n", "send 1 2 3\n", "duty 3\n", "duty 3 on\n", "duty 3 north south\n",
		"duty 3 \n", "order 0 40\n", "order 5\n", "tower 3 5 5 3\n", "crew 4 0 0 0\n", "circle 3 0 0 0 9 0 0 0\n", "map 21 21\n", "season 10 60 10\n", "haze 1 2 3\n", "# x\n", "office\n", "tick 5\x00\n",
	} {
		refused(settingText() + s)
	}
}

// The lines of a setting stand in just one order, and ahead of all commands.
func TestP10_6OrderOfLines(t *testing.T) {
	_, text := rich()
	lines := strings.Split(strings.TrimSuffix(text, "\n"), "\n")
	// The order of two hazes matters.
	lines = append(less(lines, 3), "tick 1", "tick 2")
	moved := 0
	for i, l := range lines {
		for j := range lines {
			other := slices.Insert(less(lines, i), j, l)
			x, e := season.Parse(strings.Join(other, "\n") + "\n")
			same := true
			for k := range lines {
				same = same && strings.Fields(other[k])[0] == strings.Fields(lines[k])[0]
			}
			if (e == api.OK) != same || !same && (!zero(x) || e != api.ErrForm) {
				t.Error(i, j, e)
			}
			moved++
		}
		// Two lines of a kind of which there is one are too many; none is too few.
		if x, e := season.Parse(strings.Join(slices.Insert(slices.Clone(lines), i, lines[i]), "\n") + "\n"); (e == api.OK) != (l == "tick 1" || l == "tick 2") {
			t.Error(l, "twice:", x.Commands, e)
		}
	}
	counted(t, "texts", moved, 100)
}

func TestP10_15Texts(t *testing.T) {
	r := random(6)
	for range 300 {
		s := randomScript(r, r.IntN(40))
		text, e := season.Print(s)
		if want := plainPrint(s); text != want || e != api.OK {
			t.Fatal(text, e, "instead of", want)
		}
		if x, e := season.Parse(text); !same(x, s) || e != api.OK {
			t.Fatal(text, x, e)
		}
	}
	for _, c := range rightCommands() {
		text, e := season.Print(script(c))
		if want := plainPrint(script(c)); text != want || e != api.OK {
			t.Error(text, e, "instead of", want)
		}
		if x, e := season.Parse(text); !same(x, script(c)) || e != api.OK {
			t.Error(text, x.Commands, e)
		}
	}
}

// What Parse takes is what Print returns, and nothing else.
func TestP10_15MangledTexts(t *testing.T) {
	r := random(7)
	taken, refused := 0, 0
	setting, text := rich()
	want, e := season.Print(api.Script{Setting: setting, Commands: one()})
	mustBe(t, e, api.OK, "Print")
	for range 40000 {
		x := want
		for range 1 + r.IntN(2) {
			// Most of the changes are in the commands.
			i := r.IntN(2) * min(len(text), len(x))
			x = x[:i] + mangled(r, x[i:])
		}
		s, e := season.Parse(x)
		if e != api.OK {
			refused++
			if e != api.ErrForm || !zero(s) {
				t.Fatal(x, s, e)
			}
			continue
		}
		taken++
		if again := plainPrint(s); again != x {
			t.Fatal(x, "is printed as", again)
		}
		if e, _ := season.Check(s); e != api.OK {
			t.Fatal(x, e)
		}
	}
	counted(t, "texts that are taken", taken, 1500)
	counted(t, "texts that are refused", refused, 15000)
}
