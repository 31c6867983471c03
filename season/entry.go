package season

import (
	"strconv"
	"strings"

	"firetower/api"
)

// maxNumber is the greatest number that names a thing in an entry, or a sighting in a question.
const maxNumber = 10000

// letterOf returns by which letter an entry is told; nothing if it has no right kind.
func letterOf(e api.Entry) string {
	switch {
	case e.Kind == api.EnReport && e.Report.Kind == api.ReSight:
		return "s"
	case e.Kind == api.EnReport && e.Report.Kind == api.ReBlank:
		return "b"
	case e.Kind == api.EnMark:
		return "m"
	case e.Kind == api.EnBack:
		return "x"
	}
	return ""
}

// emptyEntry returns an entry that is told by a letter, without its numbers, and whether there is one.
func emptyEntry(letter string) (api.Entry, bool) {
	switch letter {
	case "s":
		return api.Entry{Kind: api.EnReport, Report: api.Report{Kind: api.ReSight}}, true
	case "b":
		return api.Entry{Kind: api.EnReport, Report: api.Report{Kind: api.ReBlank}}, true
	case "m":
		return api.Entry{Kind: api.EnMark}, true
	case "x":
		return api.Entry{Kind: api.EnBack}, true
	}
	return api.Entry{}, false
}

// entryFields returns the numbers of an entry, as they stand in its line.
func entryFields(e *api.Entry) []field {
	r, k := &e.Report, &e.Check
	seen := []field{{&r.ID, 1, maxNumber}, {&r.Circle, 0, maxNumber}, {&r.Tick, 0, api.MaxTick}, {&r.From, 0, api.Divisions - 1}}
	slack := field{&r.Slack, 0, api.MaxSlack}
	switch letterOf(*e) {
	case "s":
		return append(seen, slack)
	case "b":
		return append(seen, field{&r.To, 0, api.Divisions - 1}, slack)
	case "m":
		return []field{
			{&k.ID, 1, maxNumber}, {&k.Circle, 0, maxNumber}, {&k.Tick, 0, api.MaxTick}, {&k.Mark.X, 0, api.MaxSide},
			{&k.Mark.Y, 0, api.MaxSide}, {&k.Shown, 0, api.Divisions - 1}, {&k.Slack, 0, api.MaxSlack},
		}
	case "x":
		return []field{{&e.Line, 1, api.MaxBookLine}}
	}
	return nil
}

func formedEntry(e api.Entry) bool {
	empty, is := emptyEntry(letterOf(e))
	return is && takeOut(entryFields(&e)) && e == empty
}

// entryWords returns the line of a formed entry without its first word.
func entryWords(e api.Entry) string { return line(letterOf(e), numbers(entryFields(&e))...) }

// Text returns the line of an entry.
func Text(e api.Entry) (string, api.Errno) {
	if !formedEntry(e) {
		return "", api.ErrForm
	}
	words := entryWords(e)
	// The number of all bytes has one digit, or two: no entry is so long that it has three.
	n := len(words) + 2
	if n > 9 {
		n++
	}
	return strconv.Itoa(n) + " " + words, api.OK
}

// Read returns the entry with a line. It is read as loosely as can be: that Text returns the line again says all.
func Read(line string) (api.Entry, api.Errno) {
	out, e := attempt(func() api.Entry {
		r := &reader{words: strings.Split(line, " ")}
		r.next()
		return r.entry()
	})
	if e != api.OK {
		return api.Entry{}, e
	}
	if text, e := Text(out); e != api.OK || text != line {
		return api.Entry{}, api.ErrForm
	}
	return out, api.OK
}
