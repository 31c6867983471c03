package season

import (
	"strings"

	"firetower/api"
)

// commandWords are the first words of the lines of commands, by their kinds; a tear of the office's copy has another one.
var commandWords = [...]string{
	api.CoTick: "tick", api.CoTell: "tell", api.CoMail: "mail", api.CoLose: "lose", api.CoDouble: "double", api.CoCrash: "crash",
	api.CoTear: "tear", api.CoFetch: "fetch", api.CoAdopt: "adopt", api.CoCell: "cell", api.CoSame: "same", api.CoSmokes: "smokes",
	api.CoSend: "send", api.CoDuty: "duty", api.CoOrder: "order",
}

// officeWord is the first word of a tear of the office's copy.
const officeWord = "office"

// Print returns the text of a script.
func Print(s api.Script) (string, api.Errno) {
	if e, _ := Check(s); e != api.OK {
		return "", e
	}
	return printed(s), api.OK
}

// printed returns the text of a script that has been checked.
func printed(s api.Script) string {
	l := settingLines(s.Setting)
	for _, c := range s.Commands {
		l = append(l, commandLine(c))
	}
	return strings.Join(l, "\n") + "\n"
}

func seasonFields(s *api.Setting) []field { return free(&s.Rise, &s.Long, &s.Wait) }

// mapFields returns the numbers of a map, but for its heights.
func mapFields(m *api.Map) []field { return free(&m.Wide, &m.High) }

func hazeFields(h *api.Haze) []field { return free(&h.From, &h.To, &h.Far) }

func towerFields(t *api.Tower) []field { return free(&t.ID, &t.At.X, &t.At.Y, &t.Height) }

func circleFields(c *api.Circle) []field {
	return free(&c.ID, &c.At.X, &c.At.Y, &c.From, &c.To, &c.Zero.Lo, &c.Zero.Hi, &c.Drift)
}

// trailFields returns the numbers of a trail, but for its spans.
func trailFields(t *api.Trail) []field {
	return free(&t.ID, &t.A.X, &t.A.Y, &t.B.X, &t.B.Y, &t.Fast, &t.Slow)
}

func crewFields(c *api.Crew) []field { return free(&c.ID, &c.At.X, &c.At.Y, &c.Free) }

// settingLines returns the lines of a setting.
func settingLines(s api.Setting) []string {
	ground := s.Service.Country.Map
	out := []string{
		line("season", numbers(seasonFields(&s))...),
		line("map", append(numbers(mapFields(&ground)), ground.Ground...)...),
	}
	out = append(out, linesOf("haze", s.Service.Country.Haze, hazeFields)...)
	out = append(out, linesOf("tower", s.Service.Country.Towers, towerFields)...)
	out = append(out, linesOf("circle", s.Service.Circles.Circles, circleFields)...)
	for _, t := range s.Trails {
		l := numbers(trailFields(&t))
		for _, closed := range t.Closed {
			l = append(l, closed.Lo, closed.Hi)
		}
		out = append(out, line("trail", l...))
	}
	return append(out, linesOf("crew", s.Crews, crewFields)...)
}

// linesOf returns a line for each element of a list.
func linesOf[T any](word string, l []T, fields func(x *T) []field) []string {
	var out []string
	for _, x := range l {
		out = append(out, line(word, numbers(fields(&x))...))
	}
	return out
}

// commandLine returns the line of a formed command.
func commandLine(c api.Command) string {
	word := commandWords[c.Kind]
	if c.Office {
		word = officeWord
	}
	words := []string{line(word, append(numbers(commandFields(&c)), c.IDs...)...)}
	switch c.Kind {
	case api.CoTell:
		words = append(words, entryWords(c.Entry))
	case api.CoAdopt:
		words = append(words, strings.Fields(c.Source)...)
	case api.CoDuty:
		words = append(words, c.Name)
	}
	return strings.Join(words, " ")
}
