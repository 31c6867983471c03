package season

import (
	"strings"

	"firetower/api"
)

// Parse returns the script with a text. It is read as loosely as can be: that Print returns the text again says all.
func Parse(text string) (api.Script, api.Errno) {
	out, e := attempt(func() api.Script { return scriptOf(text) })
	if e != api.OK {
		return api.Script{}, e
	}
	if again, e := Print(out); e != api.OK || again != text {
		return api.Script{}, api.ErrForm
	}
	return out, api.OK
}

// scriptOf reads a script.
func scriptOf(text string) api.Script {
	x := &scribe{}
	kinds := x.kinds()
	for _, l := range strings.Split(strings.TrimSuffix(text, "\n"), "\n") {
		x.words = strings.Split(l, " ")
		word := x.next()
		if read, is := kinds[word]; is {
			read()
		} else {
			x.command(word)
		}
	}
	return x.script
}

// scribe reads a script line by line.
type scribe struct {
	reader
	script api.Script
}

// kinds returns by what the lines of a setting are read behind their first words.
func (x *scribe) kinds() map[string]func() {
	return map[string]func(){
		"season": x.season, "map": x.ground, "haze": x.haze, "tower": x.tower, "circle": x.circle, "trail": x.trail, "crew": x.crew,
	}
}

func (x *scribe) season() { x.into(seasonFields(&x.script.Setting)) }

func (x *scribe) ground() {
	m := &x.script.Setting.Service.Country.Map
	x.into(mapFields(m))
	m.Ground = x.rest()
}

func (x *scribe) haze() { readTo(x, &x.script.Setting.Service.Country.Haze, hazeFields) }

func (x *scribe) tower() { readTo(x, &x.script.Setting.Service.Country.Towers, towerFields) }

func (x *scribe) circle() { readTo(x, &x.script.Setting.Service.Circles.Circles, circleFields) }

func (x *scribe) crew() { readTo(x, &x.script.Setting.Crews, crewFields) }

// readTo reads an element of a list, and puts it behind the others.
func readTo[T any](x *scribe, l *[]T, fields func(element *T) []field) {
	var element T
	x.into(fields(&element))
	*l = append(*l, element)
}

func (x *scribe) trail() {
	var t api.Trail
	x.into(trailFields(&t))
	for ends := x.rest(); len(ends) > 1; ends = ends[2:] {
		t.Closed = append(t.Closed, api.Span{Lo: ends[0], Hi: ends[1]})
	}
	x.script.Setting.Trails = append(x.script.Setting.Trails, t)
}

// command reads what stands behind the first word of a command.
func (x *scribe) command(word string) {
	c := api.Command{Kind: x.kindOf(word), Office: word == officeWord}
	x.into(commandFields(&c))
	switch c.Kind {
	case api.CoTell:
		c.Entry = x.entry()
	case api.CoAdopt:
		c.Source = sourceOf(x.words)
	case api.CoCell, api.CoSame:
		c.IDs = x.rest()
	case api.CoDuty:
		c.Name = x.next()
	}
	x.script.Commands = append(x.script.Commands, c)
}

// kindOf returns the kind of the commands whose lines begin with a word.
func (x *scribe) kindOf(word string) int {
	if word == officeWord {
		return api.CoTear
	}
	for kind, w := range commandWords {
		if w != "" && w == word {
			return kind
		}
	}
	x.fail()
	return 0
}

// sourceOf returns the source of a watch with some words: as it is printed, its lines end just behind the semicolons.
func sourceOf(words []string) string {
	var out strings.Builder
	for _, w := range words {
		out.WriteString(w)
		if strings.HasSuffix(w, ";") {
			out.WriteByte('\n')
		} else {
			out.WriteByte(' ')
		}
	}
	return out.String()
}
