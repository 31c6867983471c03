package season_test

import (
	"fmt"
	"reflect"
	"slices"
	"strings"
	"testing"

	"firetower/api"
	"firetower/season"
)

func at(x, y int) api.Place { return api.Place{X: x, Y: y} }

func span(lo, hi int) api.Span { return api.Span{Lo: lo, Hi: hi} }

// flat returns the setting of the chapter's example, with two trails and two crews.
func flat() api.Setting {
	return api.Setting{
		Service: api.Service{
			Country: api.Country{
				Map:    api.Map{Wide: 21, High: 21, Ground: make([]int, 441)},
				Towers: []api.Tower{{ID: 1, Height: 30}, {ID: 2, At: at(20, 0), Height: 30}},
			},
			Circles: api.Circles{Circles: []api.Circle{{ID: 1, To: 1000}, {ID: 2, At: at(20, 0), To: 1000}}},
		},
		Rise: 10, Long: 60, Wait: 10,
		Trails: []api.Trail{
			{ID: 1, B: at(10, 0), Fast: 5, Slow: 8},
			{ID: 2, A: at(10, 0), B: at(10, 10), Fast: 5, Slow: 8, Closed: []api.Span{span(100, 120)}},
		},
		Crews: []api.Crew{{ID: 4, Free: 30}, {ID: 3, At: at(20, 20)}},
	}
}

// settingText is the text of the setting that flat returns.
func settingText() string {
	return "season 10 60 10\nmap 21 21" + strings.Repeat(" 0", 441) +
		"\ntower 1 0 0 30\ntower 2 20 0 30\ncircle 1 0 0 0 1000 0 0 0\ncircle 2 20 0 0 1000 0 0 0\n" +
		"trail 1 0 0 10 0 5 8\ntrail 2 10 0 10 10 5 8 100 120\ncrew 4 0 0 30\ncrew 3 20 20 0\n"
}

// posts returns a setting with some towers, each with a circle of the same ID, from the last one to the first one.
func posts(n int) api.Setting {
	s := flat()
	s.Service.Country.Towers, s.Service.Circles.Circles = nil, nil
	for id := n; id > 0; id-- {
		p := at(id, 2*id%5)
		s.Service.Country.Towers = append(s.Service.Country.Towers, api.Tower{ID: id, At: p, Height: 30})
		s.Service.Circles.Circles = append(s.Service.Circles.Circles, api.Circle{ID: id, At: p, To: 1000})
	}
	return s
}

// sight, blank, mark and back return entries.
func sight(id, circle, tick, from int) api.Entry {
	return api.Entry{Kind: api.EnReport, Report: api.Report{ID: id, Kind: api.ReSight, Circle: circle, Tick: tick, From: from, Slack: 1}}
}

func blank(id, circle, tick, from, to int) api.Entry {
	return api.Entry{Kind: api.EnReport, Report: api.Report{ID: id, Kind: api.ReBlank, Circle: circle, Tick: tick, From: from, To: to, Slack: 1}}
}

func mark(id, circle, tick int, p api.Place, shown int) api.Entry {
	return api.Entry{Kind: api.EnMark, Check: api.Check{ID: id, Circle: circle, Tick: tick, Mark: p, Shown: shown, Slack: 1}}
}

func back(line int) api.Entry { return api.Entry{Kind: api.EnBack, Line: line} }

func in(tower, line, tick int, e api.Entry) api.Entered {
	return api.Entered{Tower: tower, Line: line, Tick: tick, Entry: e}
}

// example returns the two sightings of the chapter's example, as the office knows them.
func example() []api.Entered {
	return []api.Entered{in(1, 1, 0, sight(5, 1, 20, 450)), in(2, 1, 0, sight(6, 2, 30, 1350))}
}

// The commands.
func tick(n int) api.Command { return api.Command{Kind: api.CoTick, N: n} }

func tell(tower int, e api.Entry) api.Command {
	return api.Command{Kind: api.CoTell, Tower: tower, Entry: e}
}

func mail(n int) api.Command { return api.Command{Kind: api.CoMail, N: n} }

func lose(n int) api.Command { return api.Command{Kind: api.CoLose, N: n} }

func double(n int) api.Command { return api.Command{Kind: api.CoDouble, N: n} }

func crash(tower int) api.Command { return api.Command{Kind: api.CoCrash, Tower: tower} }

func fetch(tower int) api.Command { return api.Command{Kind: api.CoFetch, Tower: tower} }

func tear(tower, page, line, bytes int) api.Command {
	return api.Command{Kind: api.CoTear, Tower: tower, N: page, Line: line, Bytes: bytes}
}

func tearCopy(tower, page, line, bytes int) api.Command {
	return api.Command{Kind: api.CoTear, Tower: tower, Office: true, N: page, Line: line, Bytes: bytes}
}

func adopt(day int, source string) api.Command {
	return api.Command{Kind: api.CoAdopt, Day: day, Source: source}
}

func askCell(known int, ids ...int) api.Command {
	return api.Command{Kind: api.CoCell, IDs: ids, Known: known}
}

func askSame(known, a, b int) api.Command {
	return api.Command{Kind: api.CoSame, IDs: []int{a, b}, Known: known}
}

func askSmokes(known int) api.Command { return api.Command{Kind: api.CoSmokes, Known: known} }

func askSend(n, known int) api.Command { return api.Command{Kind: api.CoSend, N: n, Known: known} }

func askDuty(day int, name string) api.Command {
	return api.Command{Kind: api.CoDuty, Day: day, Name: name}
}

func askOrder(n, known int) api.Command { return api.Command{Kind: api.CoOrder, N: n, Known: known} }

// one returns a formed command of each kind, in order.
func one() []api.Command {
	return []api.Command{
		tick(5), tell(1, sight(5, 1, 20, 450)), mail(1), lose(2), double(3), crash(1), tear(1, 0, 1, 7), fetch(2), adopt(3, sources()[1]),
		askCell(40, 5, 6), askSame(40, 5, 6), askSmokes(40), askSend(50, 40), askDuty(3, "north"), askOrder(5, 40),
	}
}

// sources returns texts that watch.Print returns.
func sources() []string {
	return []string{
		"",
		"watch north by ann from 1 to 9;\norder send if cell <= 9;\norder look rank 1 if free = 1;\n",
		"watch north by ann on 3;\nwatch south by ben from 0 to 400 every 2 except 4, 6;\nrest ann on 4;\nswap ann ben on 3;\n",
		"order far if age > 100 and (hour < 6 or not seen = 1);\n",
		"order few if cell < 3 or seen >= 2;\norder many rank 100 if cell >= 3 and free != 0;\n",
	}
}

// play returns a season at its beginning.
func play(t *testing.T, s api.Setting) *season.Play {
	t.Helper()
	p, e := season.New(s)
	mustBe(t, e, api.OK, "New")
	return p
}

// did fails a test unless a command is done without an error.
func did(t *testing.T, p *season.Play, l ...api.Command) {
	t.Helper()
	for _, c := range l {
		if r := p.Do(c); r.Err != api.OK {
			t.Fatal(c, r.Err)
		}
	}
}

// said fails a test unless the line of a reply is the wanted one.
func said(t *testing.T, p *season.Play, c api.Command, want string) {
	t.Helper()
	if got := plainReply(c, p.Do(c)); got != want {
		t.Errorf("%v: %q instead of %q", c, got, want)
	}
}

// mustBe ends a test unless an error is the wanted one.
func mustBe(t *testing.T, got, want api.Errno, what ...any) {
	t.Helper()
	if got != want {
		t.Fatal(fmt.Sprint(what...), "returned", got, "instead of", want)
	}
}

// counted fails a test in which too little of something occurred.
func counted(t *testing.T, what string, n, least int) {
	t.Helper()
	if n < least {
		t.Error("only", n, what)
	}
}

// same reports whether two values are the same; a list without elements is the same whether it is nil or not.
func same(a, b any) bool { return sameValue(reflect.ValueOf(a), reflect.ValueOf(b)) }

func sameValue(a, b reflect.Value) bool {
	switch a.Kind() {
	case reflect.Slice:
		if a.Len() != b.Len() {
			return false
		}
		for i := range a.Len() {
			if !sameValue(a.Index(i), b.Index(i)) {
				return false
			}
		}
		return true
	case reflect.Struct:
		for i := range a.NumField() {
			if !sameValue(a.Field(i), b.Field(i)) {
				return false
			}
		}
		return true
	}
	return a.Equal(b)
}

// zero reports whether a value has nothing but zeros and lists without elements.
func zero[T any](x T) bool {
	var nothing T
	return same(x, nothing)
}

// less returns a list without one of its elements.
func less[T any](l []T, i int) []T { return slices.Delete(slices.Clone(l), i, i+1) }

// outside returns numbers that are not from one to another one.
func outside(least, most int) []int {
	return []int{least - 1, most + 1, least - 1<<40, most + 1<<50, -1 << 63, 1<<63 - 1}
}
