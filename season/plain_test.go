package season_test

import (
	"cmp"
	"fmt"
	"regexp"
	"slices"
	"strconv"
	"strings"

	"firetower/api"
	"firetower/circle"
	"firetower/crew"
	"firetower/join"
	"firetower/watch"
)

// What follows is written from the chapter alone, and the lower layers, so that the package can be held against it.

func between(n, least, most int) bool { return least <= n && n <= most }

// plainFormed reports whether an entry is formed.
func plainFormed(e api.Entry) bool {
	r, k := e.Report, e.Check
	switch e.Kind {
	case api.EnReport:
		right := r.Tower == 0 && between(r.ID, 1, 10000) && (r.Kind == 1 || r.Kind == 2) && between(r.Circle, 0, 10000) && between(r.Tick, 0, 1<<20)
		right = right && between(r.From, 0, 3599) && between(r.To, 0, 3599) && between(r.Slack, 0, 100) && (r.Kind == 2 || r.To == 0)
		return right && k == api.Check{} && e.Line == 0
	case api.EnMark:
		right := between(k.ID, 1, 10000) && between(k.Circle, 0, 10000) && between(k.Tick, 0, 1<<20) && between(k.Mark.X, 0, 48)
		right = right && between(k.Mark.Y, 0, 48) && between(k.Shown, 0, 3599) && between(k.Slack, 0, 100)
		return right && r == api.Report{} && e.Line == 0
	case api.EnBack:
		return between(e.Line, 1, 80) && r == api.Report{} && k == api.Check{}
	}
	return false
}

// plainWords returns the words of a formed entry.
func plainWords(e api.Entry) string {
	r, k := e.Report, e.Check
	switch {
	case e.Kind == api.EnMark:
		return fmt.Sprintf("m %d %d %d %d %d %d %d", k.ID, k.Circle, k.Tick, k.Mark.X, k.Mark.Y, k.Shown, k.Slack)
	case e.Kind == api.EnBack:
		return fmt.Sprintf("x %d", e.Line)
	case r.Kind == api.ReSight:
		return fmt.Sprintf("s %d %d %d %d %d", r.ID, r.Circle, r.Tick, r.From, r.Slack)
	}
	return fmt.Sprintf("b %d %d %d %d %d %d", r.ID, r.Circle, r.Tick, r.From, r.To, r.Slack)
}

// plainText returns the line of a formed entry, by all numbers that it can begin with.
func plainText(e api.Entry) string {
	for n := range 1000 {
		if s := fmt.Sprint(n, " ", plainWords(e)); len(s) == n {
			return s
		}
	}
	return ""
}

// plainRead returns the entry of a line, and whether there is one.
func plainRead(s string) (api.Entry, bool) {
	words := strings.Split(s, " ")
	var n []int
	for i, w := range words {
		x, err := strconv.Atoi(w)
		if i != 1 && (err != nil || fmt.Sprint(x) != w) {
			return api.Entry{}, false
		}
		n = append(n, x)
	}
	if len(n) < 3 || n[0] != len(s) {
		return api.Entry{}, false
	}
	var e api.Entry
	switch fmt.Sprint(words[1], len(n)) {
	case "s7":
		e = api.Entry{Kind: 1, Report: api.Report{ID: n[2], Kind: 1, Circle: n[3], Tick: n[4], From: n[5], Slack: n[6]}}
	case "b8":
		e = api.Entry{Kind: 1, Report: api.Report{ID: n[2], Kind: 2, Circle: n[3], Tick: n[4], From: n[5], To: n[6], Slack: n[7]}}
	case "m9":
		e = api.Entry{Kind: 2, Check: api.Check{ID: n[2], Circle: n[3], Tick: n[4], Mark: at(n[5], n[6]), Shown: n[7], Slack: n[8]}}
	case "x3":
		e = api.Entry{Kind: 3, Line: n[2]}
	}
	if !plainFormed(e) {
		return api.Entry{}, false
	}
	return e, true
}

// plainTorn returns a book of which a page is torn, line by line.
func plainTorn(lines []string, page, line, bytes int) ([]string, api.Errno) {
	there := 0
	for i := range lines {
		if i/8 == page {
			there++
		}
	}
	if there == 0 || line < 0 || line > there || bytes < 0 {
		return nil, api.ErrArg
	}
	var out []string
	for i, s := range lines {
		switch {
		case i/8 != page || i%8 < line-1:
			out = append(out, s)
		case i%8 == line-1:
			out = append(out, s[:min(bytes, len(s))])
		default:
			out = append(out, "")
		}
	}
	return out, api.OK
}

// hasTower reports whether a setting has a tower with an ID.
func hasTower(s api.Setting, id int) bool {
	return slices.ContainsFunc(s.Service.Country.Towers, func(t api.Tower) bool { return t.ID == id })
}

// plainEntries returns the first error of entries.
func plainEntries(s api.Setting, l []api.Entered) api.Errno {
	if len(l) > 640 {
		return api.ErrLimit
	}
	for i, x := range l {
		if !hasTower(s, x.Tower) || !between(x.Line, 1, 80) || !between(x.Tick, 0, 1<<20) || !plainFormed(x.Entry) {
			return api.ErrArg
		}
		for _, y := range l[:i] {
			if x.Tower == y.Tower && x.Line == y.Line {
				return api.ErrTwice
			}
		}
	}
	return api.OK
}

// plainCounts reports whether an entry counts at a minute.
func plainCounts(x api.Entered, l []api.Entered, known int) bool {
	for _, y := range l {
		if y.Entry.Kind == api.EnBack && y.Tower == x.Tower && y.Tick <= known && y.Entry.Line == x.Line {
			return false
		}
	}
	return x.Tick <= known && x.Entry.Kind != api.EnBack
}

// plainFold returns the day of right entries, and those that are refused.
func plainFold(s api.Setting, l []api.Entered, known int) (api.Day, []api.Entered) {
	l = slices.Clone(l)
	slices.SortFunc(l, func(a, b api.Entered) int { return cmp.Or(cmp.Compare(a.Tower, b.Tower), cmp.Compare(a.Line, b.Line)) })
	var checks []api.Check
	var refused []api.Entered
	for _, x := range l {
		if x.Entry.Kind != api.EnMark || !plainCounts(x, l, known) {
			continue
		}
		c := api.Circles{Circles: s.Service.Circles.Circles, Checks: slices.Concat(checks, []api.Check{x.Entry.Check})}
		if pairs, _ := circle.Clashes(c); circle.Check(c) == api.OK && len(pairs) == 0 {
			checks = c.Checks
		} else {
			refused = append(refused, x)
		}
	}
	d := api.Day{Service: s.Service, Rise: s.Rise, Long: s.Long}
	d.Service.Circles.Checks = checks
	for _, x := range l {
		if x.Entry.Kind != api.EnReport || !plainCounts(x, l, known) {
			continue
		}
		r := x.Entry.Report
		r.Tower = x.Tower
		more := d
		more.Reports = slices.Concat(d.Reports, []api.Report{r})
		if join.Check(more) == api.OK {
			d = more
		} else {
			refused = append(refused, x)
		}
	}
	return d, refused
}

// rising reports whether numbers increase.
func rising(l []int) bool {
	for i := range l {
		if i > 0 && l[i-1] >= l[i] {
			return false
		}
	}
	return true
}

// plainName reports whether a text is a name.
func plainName(s string) bool {
	reserved := strings.Fields("watch by rest cancel swap order rank if and or not on from to every except cell seen age hour free")
	return regexp.MustCompile("^[a-z][a-z0-9]{0,23}$").MatchString(s) && !slices.Contains(reserved, s)
}

// plainCommand reports whether a command is formed.
func plainCommand(c api.Command) bool {
	bare := api.Command{Kind: c.Kind}
	right := false
	switch c.Kind {
	case api.CoTick:
		bare.N, right = c.N, between(c.N, 0, 1<<20)
	case api.CoTell:
		bare.Tower, bare.Entry, right = c.Tower, c.Entry, between(c.Tower, 1, 1<<40) && plainFormed(c.Entry)
	case api.CoMail, api.CoLose, api.CoDouble:
		bare.N, right = c.N, between(c.N, 1, 100000)
	case api.CoCrash, api.CoFetch:
		bare.Tower, right = c.Tower, between(c.Tower, 1, 1<<40)
	case api.CoTear:
		bare.Tower, bare.Office, bare.N, bare.Line, bare.Bytes = c.Tower, c.Office, c.N, c.Line, c.Bytes
		right = between(c.Tower, 1, 1<<40) && between(c.N, 0, 9) && between(c.Line, 0, 8) && between(c.Bytes, 0, 100)
	case api.CoAdopt:
		w, e, _ := watch.Parse(c.Source)
		text, _ := watch.Print(w)
		bare.Day, bare.Source, right = c.Day, c.Source, between(c.Day, 0, 400) && len(c.Source) <= 6000 && e == api.OK && text == c.Source
	case api.CoDuty:
		bare.Day, bare.Name, right = c.Day, c.Name, between(c.Day, 0, 400) && plainName(c.Name)
	default:
		return plainQuestion(c)
	}
	return right && same(c, bare)
}

// plainQuestion reports whether a command is a formed question, but for CoDuty.
func plainQuestion(c api.Command) bool {
	bare := api.Command{Kind: c.Kind, Known: c.Known}
	right := false
	ids := rising(c.IDs) && !slices.ContainsFunc(c.IDs, func(id int) bool { return !between(id, 1, 10000) })
	switch c.Kind {
	case api.CoCell:
		bare.IDs, right = c.IDs, ids && between(len(c.IDs), 1, 7)
	case api.CoSame:
		bare.IDs, right = c.IDs, ids && len(c.IDs) == 2
	case api.CoSmokes:
		right = true
	case api.CoSend:
		bare.N, right = c.N, between(c.N, 0, 1<<20)
	case api.CoOrder:
		bare.N, right = c.N, between(c.N, 1, 10000)
	}
	return right && between(c.Known, 0, 1<<20) && same(c, bare)
}

// plainPrint returns the text of a right script.
func plainPrint(s api.Script) string {
	x, l := s.Setting, []string{}
	add := func(word any, more ...any) {
		l = append(l, strings.TrimSuffix(fmt.Sprintln(append([]any{word}, more...)...), "\n"))
	}
	add("season", x.Rise, x.Long, x.Wait)
	heights := []any{x.Service.Country.Map.Wide, x.Service.Country.Map.High}
	for _, n := range x.Service.Country.Map.Ground {
		heights = append(heights, n)
	}
	add("map", heights...)
	for _, h := range x.Service.Country.Haze {
		add("haze", h.From, h.To, h.Far)
	}
	for _, t := range x.Service.Country.Towers {
		add("tower", t.ID, t.At.X, t.At.Y, t.Height)
	}
	for _, c := range x.Service.Circles.Circles {
		add("circle", c.ID, c.At.X, c.At.Y, c.From, c.To, c.Zero.Lo, c.Zero.Hi, c.Drift)
	}
	for _, t := range x.Trails {
		parts := []any{t.ID, t.A.X, t.A.Y, t.B.X, t.B.Y, t.Fast, t.Slow}
		for _, s := range t.Closed {
			parts = append(parts, s.Lo, s.Hi)
		}
		add("trail", parts...)
	}
	for _, c := range x.Crews {
		add("crew", c.ID, c.At.X, c.At.Y, c.Free)
	}
	for _, c := range s.Commands {
		l = append(l, plainLine(c))
	}
	return strings.Join(l, "\n") + "\n"
}

// plainLine returns the line of a formed command.
func plainLine(c api.Command) string {
	ids := strings.Trim(fmt.Sprint(c.IDs), "[]")
	switch c.Kind {
	case api.CoTick:
		return fmt.Sprintf("tick %d", c.N)
	case api.CoTell:
		return fmt.Sprintf("tell %d %s", c.Tower, plainWords(c.Entry))
	case api.CoMail:
		return fmt.Sprintf("mail %d", c.N)
	case api.CoLose:
		return fmt.Sprintf("lose %d", c.N)
	case api.CoDouble:
		return fmt.Sprintf("double %d", c.N)
	case api.CoCrash:
		return fmt.Sprintf("crash %d", c.Tower)
	case api.CoFetch:
		return fmt.Sprintf("fetch %d", c.Tower)
	case api.CoTear:
		word := map[bool]string{false: "tear", true: "office"}[c.Office]
		return fmt.Sprintf("%s %d %d %d %d", word, c.Tower, c.N, c.Line, c.Bytes)
	case api.CoAdopt:
		return strings.TrimSuffix(fmt.Sprintf("adopt %d %s", c.Day, strings.ReplaceAll(c.Source, "\n", " ")), " ")
	case api.CoCell:
		return fmt.Sprintf("cell %d %s", c.Known, ids)
	case api.CoSame:
		return fmt.Sprintf("same %d %s", c.Known, ids)
	case api.CoSmokes:
		return fmt.Sprintf("smokes %d", c.Known)
	case api.CoSend:
		return fmt.Sprintf("send %d %d", c.N, c.Known)
	case api.CoDuty:
		return fmt.Sprintf("duty %d %s", c.Day, c.Name)
	}
	return fmt.Sprintf("order %d %d", c.N, c.Known)
}

// plainReply returns the line of a reply.
func plainReply(c api.Command, r api.Reply) string {
	if r.Err != api.OK {
		return fmt.Sprintf("error %d", int(r.Err))
	}
	switch c.Kind {
	case api.CoTell:
		return fmt.Sprintf("line %d", r.N)
	case api.CoFetch:
		return fmt.Sprintf("new %d", r.N)
	case api.CoCell:
		out := fmt.Sprintf("cell %d", len(r.Places))
		for _, p := range r.Places {
			out += fmt.Sprintf(" %d %d", p.X, p.Y)
		}
		return out
	case api.CoSame:
		return cmp.Or(map[api.Answer]string{1: "no", 2: "yes"}[r.Verdict.Answer], "open")
	case api.CoSmokes:
		out := fmt.Sprintf("smokes %d", len(r.Sets))
		for _, ids := range r.Sets {
			out += fmt.Sprintf(" %d", len(ids))
			for _, id := range ids {
				out += fmt.Sprintf(" %d", id)
			}
		}
		return out
	case api.CoSend:
		out := fmt.Sprintf("send %d", r.Plan.Sum)
		for _, s := range r.Plan.Sends {
			out += fmt.Sprintf(" %d %d", s.Crew, s.Blaze)
		}
		return out
	case api.CoDuty:
		out := "duty"
		for _, n := range r.Names {
			out += " " + n
		}
		return out
	case api.CoOrder:
		if r.Name == "" {
			return "order"
		}
		return "order " + r.Name
	}
	return "ok"
}

// crewTimes returns the table of times for sets of sightings.
func crewTimes(s api.Setting, d api.Day, sets [][]int, n int) ([][]int, api.Errno) {
	var blazes []api.Blaze
	for _, ids := range sets {
		cell, _ := join.Cell(d, ids)
		blazes = append(blazes, api.Blaze{ID: ids[0], Cell: cell, Proved: true})
	}
	return crew.Times(s.Trails, s.Crews, blazes, n)
}
