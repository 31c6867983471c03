package crew

import "firetower/api"

// deed is what happens in an office, with the fields of its kind alone; told returns it as one of all kinds.
type deed interface{ told() api.Deed }

// telling is a smoke that is told, or told anew.
type telling struct{ blaze api.Blaze }

// withdrawing is a smoke that is withdrawn.
type withdrawing struct{ blaze int }

// sending is a minute at which crews are sent.
type sending struct{ tick int }

// freeing is a crew that is free again.
type freeing struct {
	crew, tick int
	at         api.Place
}

func (d telling) told() api.Deed { return api.Deed{Kind: api.DeBlaze, Blaze: d.blaze} }

func (d withdrawing) told() api.Deed { return api.Deed{Kind: api.DeWithdraw, ID: d.blaze} }

func (d sending) told() api.Deed { return api.Deed{Kind: api.DeSend, Tick: d.tick} }

func (d freeing) told() api.Deed {
	return api.Deed{Kind: api.DeDone, ID: d.crew, Tick: d.tick, At: d.at}
}

// deedOf returns a deed by its kind, and whether there is one, and all other fields are zero.
func deedOf(d api.Deed) (deed, bool) {
	switch d.Kind {
	case api.DeBlaze:
		return formed(telling{d.Blaze}, d)
	case api.DeWithdraw:
		return formed(withdrawing{d.ID}, d)
	case api.DeSend:
		return formed(sending{d.Tick}, d)
	case api.DeDone:
		return formed(freeing{d.ID, d.Tick, d.At}, d)
	}
	return nil, false
}

// formed returns a deed, and whether it tells all that another one does of which it has some fields.
func formed(x deed, d api.Deed) (deed, bool) {
	t := x.told()
	same := t.ID == d.ID && t.Tick == d.Tick && t.At == d.At && t.Blaze.ID == d.Blaze.ID && t.Blaze.Proved == d.Blaze.Proved
	return x, same && len(t.Blaze.Cell) == len(d.Blaze.Cell)
}
