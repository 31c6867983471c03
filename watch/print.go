package watch

import (
	"strconv"
	"strings"

	"firetower/api"
)

// Print returns a watch as a source.
func Print(w api.Watch) (string, api.Errno) {
	if e := Check(w); e != api.OK {
		return "", e
	}
	var out strings.Builder
	for _, l := range w.Lines {
		out.WriteString(lineText(l) + "\n")
	}
	for _, o := range w.Orders {
		out.WriteString(orderText(o) + "\n")
	}
	return out.String(), api.OK
}

// PrintCond returns a condition as a source.
func PrintCond(c api.Cond) (string, api.Errno) {
	if e := checkCond(c); e != api.OK {
		return "", e
	}
	return condText(c), api.OK
}

func lineText(l api.Line) string {
	var who string
	switch l.Kind {
	case api.LiWatch:
		who = "watch " + l.Tower + " by " + l.Person
	case api.LiRest:
		who = "rest " + l.Person
	case api.LiCancel:
		who = "cancel " + l.Tower
	case api.LiSwap:
		who = "swap " + l.Person + " " + l.Other
	}
	return who + daysText(l) + ";"
}

// daysText returns the text of the days of a line, with the blank ahead of it.
func daysText(l api.Line) string {
	out := " from " + strconv.Itoa(l.From) + " to " + strconv.Itoa(l.To)
	if l.Every != 1 {
		out += " every " + strconv.Itoa(l.Every)
	} else if l.From == l.To {
		out = " on " + strconv.Itoa(l.From)
	}
	for i, d := range l.Except {
		if i == 0 {
			out += " except " + strconv.Itoa(d)
		} else {
			out += ", " + strconv.Itoa(d)
		}
	}
	return out
}

func orderText(o api.Order) string {
	out := "order " + o.Name
	if o.Rank != 0 {
		out += " rank " + strconv.Itoa(o.Rank)
	}
	return out + " if " + condText(o.When) + ";"
}

func condText(c api.Cond) string {
	switch c.Kind {
	case api.CoNot:
		return "not " + kidText(c.Kids[0], 2)
	case api.CoAnd:
		return kidText(c.Kids[0], 1) + " and " + kidText(c.Kids[1], 2)
	case api.CoOr:
		return kidText(c.Kids[0], 0) + " or " + kidText(c.Kids[1], 1)
	}
	return factNames[c.Fact] + " " + opSigns[c.Op] + " " + strconv.Itoa(c.N)
}

// kidText returns the text of a kid in a place that asks for a level.
func kidText(c api.Cond, asked int) string {
	if level(c) < asked {
		return "(" + condText(c) + ")"
	}
	return condText(c)
}

// level returns how closely the text of a condition holds together.
func level(c api.Cond) int {
	switch c.Kind {
	case api.CoOr:
		return 0
	case api.CoAnd:
		return 1
	}
	return 2
}
