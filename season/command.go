package season

import (
	"firetower/api"
	"firetower/watch"
)

const (
	maxMail  = 100000                              // the greatest ID of a mail that a command names
	maxBytes = 100                                 // bytes that a torn line keeps at most, as far as a command says
	lastPage = api.MaxBookLine/api.MaxPageLine - 1 // the last page of a book
)

// Check returns the first error of a script, and the index of its command.
func Check(s api.Script) (api.Errno, int) {
	if e := CheckSetting(s.Setting); e != api.OK {
		return e, -1
	}
	if len(s.Commands) > api.MaxCommands {
		return api.ErrLimit, -1
	}
	for i, c := range s.Commands {
		if !formedCommand(c) {
			return api.ErrArg, i
		}
	}
	return api.OK, -1
}

func isQuestion(c api.Command) bool { return within(c.Kind, api.CoCell, api.CoOrder) }

// commandFields returns the numbers of a command, but for its IDs, as they stand in its line.
func commandFields(c *api.Command) []field {
	tower := field{&c.Tower, 1, api.MaxID}
	known := field{&c.Known, 0, api.MaxTick}
	switch c.Kind {
	case api.CoTick:
		return []field{{&c.N, 0, api.MaxTick}}
	case api.CoTell, api.CoCrash, api.CoFetch:
		return []field{tower}
	case api.CoMail, api.CoLose, api.CoDouble:
		return []field{{&c.N, 1, maxMail}}
	case api.CoTear:
		return []field{tower, {&c.N, 0, lastPage}, {&c.Line, 0, api.MaxPageLine}, {&c.Bytes, 0, maxBytes}}
	case api.CoAdopt, api.CoDuty:
		return []field{{&c.Day, 0, api.MaxDay}}
	case api.CoCell, api.CoSame, api.CoSmokes:
		return []field{known}
	case api.CoSend:
		return []field{{&c.N, 0, api.MaxTick}, known}
	case api.CoOrder:
		return []field{{&c.N, 1, maxNumber}, known}
	}
	return nil
}

// formedCommand reports whether a command is formed: all that its kind has is right, and nothing is left without it.
func formedCommand(c api.Command) bool {
	right := within(c.Kind, api.CoTick, api.CoOrder) && takeOut(commandFields(&c))
	switch c.Kind {
	case api.CoTell:
		right = right && formedEntry(c.Entry)
		c.Entry = api.Entry{}
	case api.CoTear:
		c.Office = false
	case api.CoAdopt:
		right = right && isSource(c.Source)
		c.Source = ""
	case api.CoCell:
		right = right && areIDs(c.IDs, 1, api.MaxSightings)
		c.IDs = nil
	case api.CoSame:
		right = right && areIDs(c.IDs, 2, 2)
		c.IDs = nil
	case api.CoDuty:
		right = right && isName(c.Name)
		c.Name = ""
	}
	return right && isBare(c)
}

// isBare reports whether a command has nothing but a kind.
func isBare(c api.Command) bool {
	return c.Tower == 0 && c.N == 0 && c.Entry == (api.Entry{}) && !c.Office && c.Line == 0 && c.Bytes == 0 &&
		c.Day == 0 && c.Source == "" && c.Name == "" && len(c.IDs) == 0 && c.Known == 0
}

// areIDs reports whether a list has from least to most numbers of sightings, in increasing order.
func areIDs(l []int, least, most int) bool {
	if !within(len(l), least, most) {
		return false
	}
	last := 0
	for _, id := range l {
		if !within(id, last+1, maxNumber) {
			return false
		}
		last = id
	}
	return true
}

// isSource reports whether a text is just as watch.Print writes it.
func isSource(text string) bool {
	w, e, _ := watch.Parse(text)
	if e != api.OK {
		return false
	}
	printed, e := watch.Print(w)
	return e == api.OK && printed == text
}

// isName reports whether a text is a name of layer 8.
func isName(text string) bool {
	_, e := watch.Who(api.Watch{}, 0, text)
	return e == api.OK
}
