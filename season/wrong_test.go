package season_test

import (
	"slices"
	"strings"

	"firetower/api"
)

// changed is something wrong, and its first error.
type changed[T any] struct {
	name string
	e    api.Errno
	do   func(x *T)
}

// each returns a change that is all of some changes.
func each[T any](l ...func(x *T)) func(x *T) {
	return func(x *T) {
		for _, do := range l {
			do(x)
		}
	}
}

// wrongServices returns what can be wrong with the service of a setting, as cell.Check says it, in its order.
func wrongServices() []changed[api.Setting] {
	return []changed[api.Setting]{
		{"no map", api.ErrArg, func(s *api.Setting) { s.Service.Country.Map.Wide = 0 }},
		{"a height too few", api.ErrArg, func(s *api.Setting) { s.Service.Country.Map.Ground = make([]int, 440) }},
		{"13 towers", api.ErrLimit, func(s *api.Setting) { s.Service.Country.Towers = posts(13).Service.Country.Towers }},
		{"61 hazes", api.ErrLimit, func(s *api.Setting) { s.Service.Country.Haze = make([]api.Haze, 61) }},
		{"a tower off the map", api.ErrArg, func(s *api.Setting) { s.Service.Country.Towers[0].At.X = 21 }},
		{"a tower twice", api.ErrTwice, func(s *api.Setting) { s.Service.Country.Towers[1].ID = 1 }},
		{"wrong haze", api.ErrArg, func(s *api.Setting) { s.Service.Country.Haze = []api.Haze{{From: 2, To: 1}} }},
		{"13 circles", api.ErrLimit, func(s *api.Setting) { s.Service.Circles.Circles = make([]api.Circle, 13) }},
		{"a wrong circle", api.ErrArg, func(s *api.Setting) { s.Service.Circles.Circles[1].Drift = 61 }},
		{"a circle twice", api.ErrTwice, func(s *api.Setting) { s.Service.Circles.Circles[1].ID = 1 }},
		{"a wrong check", api.ErrArg, func(s *api.Setting) { s.Service.Circles.Checks = make([]api.Check, 1) }},
		{"a check of no circle", api.ErrNone, func(s *api.Setting) {
			s.Service.Circles.Checks = []api.Check{mark(3, 9, 20, at(10, 0), 0).Check}
		}},
		{"a circle at no tower", api.ErrNone, func(s *api.Setting) { s.Service.Circles.Circles[1].At = at(5, 5) }},
	}
}

func hasCheck(s *api.Setting) {
	s.Service.Circles.Checks = []api.Check{mark(3, 1, 20, at(10, 0), 0).Check}
}

func nineTowers(s *api.Setting) {
	for i := len(s.Service.Country.Towers); i < 9; i++ {
		s.Service.Country.Towers = append(s.Service.Country.Towers, api.Tower{ID: i + 1, At: at(i, i)})
	}
}

func noWait(s *api.Setting) { s.Wait = 0 }

func trailTwice(s *api.Setting) { s.Trails[1].ID = s.Trails[0].ID }

// wrongOthers returns what else can be wrong with a setting, in the order of the chapter.
func wrongOthers() []changed[api.Setting] {
	type change = changed[api.Setting]
	out := []change{
		{"a check", api.ErrArg, hasCheck},
		{"nine towers", api.ErrLimit, nineTowers},
	}
	for _, n := range outside(0, 200) {
		out = append(out, change{"Rise", api.ErrArg, func(s *api.Setting) { s.Rise = n }})
	}
	for _, n := range outside(0, 1440) {
		out = append(out, change{"Long", api.ErrArg, func(s *api.Setting) { s.Long = n }})
	}
	for _, n := range outside(1, 1440) {
		out = append(out, change{"Wait", api.ErrArg, func(s *api.Setting) { s.Wait = n }})
	}
	return append(out,
		change{"41 trails", api.ErrLimit, func(s *api.Setting) { s.Trails = make([]api.Trail, 41) }},
		change{"a wrong trail", api.ErrArg, func(s *api.Setting) { s.Trails[0].B = s.Trails[0].A }},
		change{"nine spans", api.ErrLimit, func(s *api.Setting) { s.Trails[1].Closed = make([]api.Span, 9) }},
		change{"a trail twice", api.ErrTwice, trailTwice},
		change{"seven crews", api.ErrLimit, func(s *api.Setting) { s.Crews = make([]api.Crew, 7) }},
		change{"a wrong crew", api.ErrArg, func(s *api.Setting) { s.Crews[0].Free = -1 }},
		change{"a crew twice", api.ErrTwice, func(s *api.Setting) { s.Crews[1].ID = 4 }},
	)
}

// wrongSettings returns what can be wrong with the setting that flat returns.
func wrongSettings() []changed[api.Setting] {
	out := slices.Concat(wrongServices(), wrongOthers())
	type change = changed[api.Setting]
	return append(out,
		change{"a check, a circle at no tower", api.ErrNone, each(hasCheck, func(s *api.Setting) { s.Service.Country.Towers[1].At = at(5, 5) })},
		change{"nine towers, a check", api.ErrArg, each(nineTowers, hasCheck)},
		change{"nine towers, no wait", api.ErrLimit, each(nineTowers, noWait)},
		change{"nine towers, a trail twice", api.ErrLimit, each(nineTowers, trailTwice)},
		change{"no wait, a trail twice", api.ErrArg, each(noWait, trailTwice)},
		change{"no wait, seven crews", api.ErrArg, each(noWait, func(s *api.Setting) { s.Crews = make([]api.Crew, 7) })},
		change{"a check, a trail twice", api.ErrArg, each(hasCheck, trailTwice)},
		change{"a trail twice, seven crews", api.ErrTwice, each(trailTwice, func(s *api.Setting) { s.Crews = make([]api.Crew, 7) })},
	)
}

// wrongEntries returns entries that are not formed.
func wrongEntries() []api.Entry {
	s, b, m, x := sight(7, 1, 20, 450), blank(8, 1, 20, 450, 500), mark(9, 1, 20, at(3, 4), 450), back(3)
	out := []api.Entry{{}, {Kind: 4, Line: 1}, {Kind: -1, Line: 1}, {Kind: api.EnBack}}
	for _, kind := range []int{0, 3, -1} {
		s, b := s, b
		s.Report.Kind, b.Report.Kind = kind, kind
		out = append(out, s, b)
	}
	for _, f := range []struct {
		least, most int
		of          func(e *api.Entry) *int
		in          []api.Entry
	}{
		{1, 10000, func(e *api.Entry) *int { return &e.Report.ID }, []api.Entry{s, b}},
		{0, 0, func(e *api.Entry) *int { return &e.Report.Tower }, []api.Entry{s, b, m, x}},
		{0, 10000, func(e *api.Entry) *int { return &e.Report.Circle }, []api.Entry{s, b}},
		{0, 1 << 20, func(e *api.Entry) *int { return &e.Report.Tick }, []api.Entry{s, b}},
		{0, 3599, func(e *api.Entry) *int { return &e.Report.From }, []api.Entry{s, b}},
		{0, 3599, func(e *api.Entry) *int { return &e.Report.To }, []api.Entry{b}},
		{0, 0, func(e *api.Entry) *int { return &e.Report.To }, []api.Entry{s, m, x}},
		{0, 100, func(e *api.Entry) *int { return &e.Report.Slack }, []api.Entry{s, b}},
		{0, 0, func(e *api.Entry) *int { return &e.Report.Slack }, []api.Entry{m, x}},
		{0, 0, func(e *api.Entry) *int { return &e.Report.ID }, []api.Entry{m, x}},
		{0, 0, func(e *api.Entry) *int { return &e.Report.Kind }, []api.Entry{m, x}},
		{0, 0, func(e *api.Entry) *int { return &e.Report.From }, []api.Entry{m, x}},
		{1, 10000, func(e *api.Entry) *int { return &e.Check.ID }, []api.Entry{m}},
		{0, 0, func(e *api.Entry) *int { return &e.Check.ID }, []api.Entry{s, b, x}},
		{0, 10000, func(e *api.Entry) *int { return &e.Check.Circle }, []api.Entry{m}},
		{0, 1 << 20, func(e *api.Entry) *int { return &e.Check.Tick }, []api.Entry{m}},
		{0, 48, func(e *api.Entry) *int { return &e.Check.Mark.X }, []api.Entry{m}},
		{0, 48, func(e *api.Entry) *int { return &e.Check.Mark.Y }, []api.Entry{m}},
		{0, 3599, func(e *api.Entry) *int { return &e.Check.Shown }, []api.Entry{m}},
		{0, 100, func(e *api.Entry) *int { return &e.Check.Slack }, []api.Entry{m}},
		{0, 0, func(e *api.Entry) *int { return &e.Check.Mark.Y }, []api.Entry{s, b, x}},
		{1, 80, func(e *api.Entry) *int { return &e.Line }, []api.Entry{x}},
		{0, 0, func(e *api.Entry) *int { return &e.Line }, []api.Entry{s, b, m}},
	} {
		for _, e := range f.in {
			for _, n := range outside(f.least, f.most) {
				*f.of(&e) = n
				out = append(out, e)
			}
		}
	}
	return out
}

// rightEntries returns formed entries with the least and the greatest numbers.
func rightEntries() []api.Entry {
	var out []api.Entry
	for _, slack := range []int{0, 1, 100} {
		for _, e := range []api.Entry{
			sight(1, 0, 0, 0), sight(10000, 10000, 1<<20, 3599), sight(7, 1, 20, 450), blank(1, 0, 0, 0, 0), blank(10000, 10000, 1<<20, 3599, 3599),
			blank(8, 2, 0, 3500, 20), blank(8, 2, 9, 0, 3599),
		} {
			e.Report.Slack = slack
			out = append(out, e)
		}
		for _, e := range []api.Entry{mark(1, 0, 0, at(0, 0), 0), mark(10000, 10000, 1<<20, at(48, 48), 3599), mark(9, 1, 5, at(3, 4), 10)} {
			e.Check.Slack = slack
			out = append(out, e)
		}
	}
	for line := 1; line <= 80; line++ {
		out = append(out, back(line))
	}
	return out
}

// wrongCommands returns commands that are not formed.
func wrongCommands() []api.Command {
	out := []api.Command{{}, {Kind: -1}, {Kind: 16}, {Kind: 1 << 40}}
	for i, c := range one() {
		for _, kind := range []int{0, 16, -c.Kind} {
			x := c
			x.Kind = kind
			out = append(out, x)
		}
		for _, f := range foreign()[i] {
			x := c
			f(&x)
			out = append(out, x)
		}
	}
	for _, e := range wrongEntries() {
		out = append(out, tell(1, e))
	}
	return slices.Concat(out, wrongNumbers(), wrongIDs(), wrongTexts())
}

// wrongNumbers returns commands one of whose numbers is wrong.
func wrongNumbers() []api.Command {
	var out []api.Command
	for _, c := range one() {
		for _, n := range numbersOf(&c) {
			kept := *n.at
			for _, *n.at = range outside(n.least, n.most) {
				out = append(out, c)
			}
			*n.at = kept
		}
	}
	return out
}

// number is a number of a command, and what it can be.
type number struct {
	at          *int
	least, most int
}

// numbersOf returns the numbers of a command that is one of its kind's.
func numbersOf(c *api.Command) []number {
	n, tower, day, known := &c.N, number{&c.Tower, 1, 1 << 40}, number{&c.Day, 0, 400}, number{&c.Known, 0, 1 << 20}
	return map[int][]number{
		api.CoTick: {{n, 0, 1 << 20}}, api.CoTell: {tower}, api.CoMail: {{n, 1, 100000}}, api.CoLose: {{n, 1, 100000}}, api.CoDouble: {{n, 1, 100000}},
		api.CoCrash: {tower}, api.CoTear: {tower, {n, 0, 9}, {&c.Line, 0, 8}, {&c.Bytes, 0, 100}}, api.CoFetch: {tower}, api.CoAdopt: {day},
		api.CoCell: {known}, api.CoSame: {known}, api.CoSmokes: {known}, api.CoSend: {{n, 0, 1 << 20}, known}, api.CoDuty: {day},
		api.CoOrder: {{n, 1, 10000}, known},
	}[c.Kind]
}

// foreign returns, for the commands of one, changes of the fields that they do not have.
func foreign() [][]func(c *api.Command) {
	fields := []func(c *api.Command){
		func(c *api.Command) { c.Tower = 1 },
		func(c *api.Command) { c.N = 1 },
		func(c *api.Command) { c.Entry = sight(5, 1, 20, 450) },
		func(c *api.Command) { c.Office = true },
		func(c *api.Command) { c.Line = 1 },
		func(c *api.Command) { c.Bytes = 1 },
		func(c *api.Command) { c.Day = 1 },
		func(c *api.Command) { c.Source = sources()[1] },
		func(c *api.Command) { c.Name = "north" },
		func(c *api.Command) { c.IDs = []int{5, 6} },
		func(c *api.Command) { c.Known = 1 },
		func(c *api.Command) { c.Entry.Line = 1 },
		func(c *api.Command) { c.N = -1 },
		func(c *api.Command) { c.Known = -1 },
	}
	own := [][]int{{1, 12}, {0, 2, 11}, {1, 12}, {1, 12}, {1, 12}, {0}, {0, 1, 3, 4, 5, 12}, {0}, {6, 7}, {9, 10, 13}, {9, 10, 13}, {10, 13}, {1, 10, 12, 13}, {6, 8}, {1, 10, 12, 13}}
	var out [][]func(c *api.Command)
	for _, has := range own {
		var l []func(c *api.Command)
		for i, f := range fields {
			if !slices.Contains(has, i) {
				l = append(l, f)
			}
		}
		out = append(out, l)
	}
	return out
}

// wrongIDs returns questions whose IDs are wrong.
func wrongIDs() []api.Command {
	out := []api.Command{{Kind: api.CoSame, IDs: []int{5}}, {Kind: api.CoSame, IDs: []int{5, 6, 7}}}
	for _, ids := range [][]int{nil, {}, {0}, {-1}, {10001}, {5, 5}, {6, 5}, {0, 5}, {5, 10001}, {1, 2, 2}, {1, 3, 2}, {1, 2, 3, 4, 5, 6, 7, 8}, {-1 << 63}, {1, 1<<63 - 1}} {
		out = append(out, api.Command{Kind: api.CoCell, IDs: ids}, api.Command{Kind: api.CoSame, IDs: ids})
	}
	return out
}

// wrongTexts returns commands whose sources, or names are wrong.
func wrongTexts() []api.Command {
	var out []api.Command
	for _, s := range []string{
		"x", " ", "\n", "watch north by ann on 3;", "watch north by ann on 3; ", "watch  north by ann on 3;\n", "watch north by ann on 3;\n\n", " watch north by ann on 3;\n",
		"watch north by ann on 03;\n", "watch north by ann from 3 to 3;\n", "watch north by ann on 401;\n", "# a comment\n", "order send if cell<=9;\n", "order send if (cell <= 9);\n",
		"order send if cell <= 9;\nwatch north by ann on 3;\n", "watch on by ann on 3;\n", "watch north by ann\non 3;\n", strings.Repeat("watch north by ann from 100 to 300 every 2 except 101, 102, 103, 104, 105, 106, 107, 108, 109, 110, 111, 112;\n", 60),
	} {
		out = append(out, adopt(3, s))
	}
	for _, s := range []string{"", "on", "free", "North", "a_b", "9north", "north ", " north", "north;", "north on", "abcdefghijklmnopqrstuvwxy", "nörth", "watch", "a\x00"} {
		out = append(out, askDuty(3, s))
	}
	return out
}

// rightCommands returns formed commands with the least and the greatest numbers.
func rightCommands() []api.Command {
	out := one()
	for _, c := range one() {
		for _, n := range numbersOf(&c) {
			kept := *n.at
			for _, *n.at = range []int{n.least, n.most} {
				out = append(out, c)
			}
			*n.at = kept
		}
		c.IDs = append([]int{}, c.IDs...)
		out = append(out, c)
	}
	out = append(out, tearCopy(1, 0, 0, 0), tearCopy(2, 9, 8, 100), askCell(0, 1, 2, 3, 4, 5, 6, 7), askCell(0, 10000), askCell(0, 1), askSame(0, 1, 10000), askSame(0, 9999, 10000))
	for _, e := range rightEntries() {
		out = append(out, tell(1, e))
	}
	for _, s := range sources() {
		out = append(out, adopt(0, s))
	}
	for _, s := range []string{"a", "abcdefghijklmnopqrstuvwx", "north2", "onn", "o"} {
		out = append(out, askDuty(0, s))
	}
	return out
}
