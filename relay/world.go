package relay

import (
	"cmp"
	"slices"

	"firetower/api"
)

// World is stations that say words to each other over mails that can be lost and doubled.
type World struct {
	wait  int
	tick  int
	sent  int // mails that were ever put on their way: the last ID
	mails []api.Mail
	talks [][]talk // by who says, and to whom
}

// talk is what a station says to another one. Words are heard and known in order, so that numbers of words suffice.
type talk struct {
	said         []string
	heard, known int
	due          int // holds only while words are open
}

func (t talk) open() int { return len(t.said) - t.known }

// New returns a world at its beginning.
func New(stations, wait int) (*World, api.Errno) {
	if stations < 1 || stations > api.MaxStations || wait < 1 || wait > api.MaxWait {
		return nil, api.ErrArg
	}
	w := &World{wait: wait, talks: make([][]talk, stations)}
	for a := range stations {
		w.talks[a] = make([]talk, stations)
	}
	return w, api.OK
}

// isStation says whether a world has a station with a number.
func (w *World) isStation(a int) bool { return a >= 0 && a < len(w.talks) }

// talk returns what a station says to another one; nil if there are no two such stations.
func (w *World) talk(a, b int) *talk {
	if !w.isStation(a) || !w.isStation(b) || a == b {
		return nil
	}
	return &w.talks[a][b]
}

// told is talk for those who only look: without two such stations nothing was said.
func (w *World) told(a, b int) talk {
	if t := w.talk(a, b); t != nil {
		return *t
	}
	return talk{}
}

// Tick returns the time.
func (w *World) Tick() int { return w.tick }

// Mails returns the mails on their way.
func (w *World) Mails() []api.Mail { return slices.Clone(w.mails) }

// Said returns the words that a station has said to another one.
func (w *World) Said(a, b int) []string { return slices.Clone(w.told(a, b).said) }

// Heard returns the words that have been told at a station, of those that another one has said to it.
func (w *World) Heard(a, b int) []string {
	t := w.told(b, a)
	return slices.Clone(t.said[:t.heard])
}

// Open returns how many words a station has said to another one, of which it does not know that they have arrived.
func (w *World) Open(a, b int) int { return w.told(a, b).open() }

// Due returns the minute at which a station sends its open words to another one again.
func (w *World) Due(a, b int) (int, bool) {
	t := w.told(a, b)
	if t.open() == 0 {
		return 0, false
	}
	return t.due, true
}

// room returns how many more mails can be on their way.
func (w *World) room() int { return api.MaxMails - len(w.mails) }

// send puts mails on their way, in order, as long as there is room: so many are ready in the channel, and the others are not sent at all.
func (w *World) send(l ...api.Mail) {
	ready := make(chan api.Mail, min(len(l), w.room()))
	for _, m := range l {
		select {
		case ready <- m:
		default:
		}
	}
	close(ready)
	for m := range ready {
		w.sent++
		m.ID = w.sent
		w.mails = append(w.mails, m)
	}
}

// find returns the index of the mail with an ID, and whether there is one: mails stand in the order of their IDs.
func (w *World) find(id int) (int, bool) {
	return slices.BinarySearchFunc(w.mails, id, func(m api.Mail, id int) int { return cmp.Compare(m.ID, id) })
}

// take takes a mail off its way.
func (w *World) take(id int) (api.Mail, bool) {
	i, ok := w.find(id)
	if !ok {
		return api.Mail{}, false
	}
	m := w.mails[i]
	w.mails = slices.Delete(w.mails, i, i+1)
	return m, true
}
