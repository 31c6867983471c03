package relay

import "firetower/api"

// Do does a step.
func (w *World) Do(s api.Step) api.Errno {
	do, ok := steps()[s.Kind]
	if !ok || s != bare(s) {
		return api.ErrArg
	}
	return do(w, s)
}

// steps returns what is done at each kind of steps.
func steps() map[int]func(*World, api.Step) api.Errno {
	return map[int]func(*World, api.Step) api.Errno{
		api.StSay:     (*World).say,
		api.StTick:    (*World).goOn,
		api.StDeliver: (*World).deliver,
		api.StLose:    (*World).lose,
		api.StDouble:  (*World).double,
		api.StCrash:   (*World).crash,
	}
}

// bare returns a step without the fields that its kind does not have.
func bare(s api.Step) api.Step {
	switch s.Kind {
	case api.StSay:
		return api.Step{Kind: s.Kind, A: s.A, B: s.B, Text: s.Text}
	case api.StCrash:
		return api.Step{Kind: s.Kind, A: s.A}
	}
	return api.Step{Kind: s.Kind, N: s.N}
}

func (w *World) say(s api.Step) api.Errno {
	t := w.talk(s.A, s.B)
	if t == nil || len(s.Text) > api.MaxText {
		return api.ErrArg
	}
	if len(t.said) == api.MaxSaid || w.room() == 0 {
		return api.ErrLimit
	}
	if t.open() == 0 {
		t.due = w.tick + w.wait
	}
	t.said = append(t.said, s.Text)
	w.send(word(s.A, s.B, len(t.said), s.Text))
	return api.OK
}

// word returns the mail with a word of a station to another one.
func word(a, b, number int, text string) api.Mail {
	return api.Mail{Kind: api.MaWord, From: a, To: b, Number: number, Text: text}
}

// goOn lets the time go on, and sends again what is due.
func (w *World) goOn(s api.Step) api.Errno {
	if s.N < w.tick || s.N > api.MaxTick {
		return api.ErrArg
	}
	w.tick = s.N
	for a := range len(w.talks) {
		for b := range len(w.talks) {
			if due, is := w.Due(a, b); is && due <= w.tick {
				w.sayAgain(a, b)
			}
		}
	}
	return api.OK
}

// sayAgain sends all open words of a station to another one.
func (w *World) sayAgain(a, b int) {
	t := w.talk(a, b)
	var l []api.Mail
	for i := t.known; i < len(t.said); i++ {
		l = append(l, word(a, b, i+1, t.said[i]))
	}
	w.send(l...)
	t.due = w.tick + w.wait
}

func (w *World) deliver(s api.Step) api.Errno {
	m, ok := w.take(s.N)
	if !ok {
		return api.ErrNone
	}
	if m.Kind == api.MaWord {
		w.hear(m)
	} else {
		w.learn(m)
	}
	return api.OK
}

// hear is what the station does at which a word arrives. It sends a receipt for a word that it has heard before, too: the one for that may be lost.
func (w *World) hear(m api.Mail) {
	t := w.talk(m.From, m.To)
	if m.Number == t.heard+1 {
		t.heard++
	}
	w.send(api.Mail{Kind: api.MaReceipt, From: m.To, To: m.From, Number: t.heard + 1})
}

// learn is what the station does at which a receipt arrives. Old receipts can come late, and say nothing new.
func (w *World) learn(m api.Mail) {
	t := w.talk(m.To, m.From)
	if m.Number-1 > t.known {
		t.known = m.Number - 1
		t.due = w.tick + w.wait
	}
}

func (w *World) lose(s api.Step) api.Errno {
	if _, ok := w.take(s.N); !ok {
		return api.ErrNone
	}
	return api.OK
}

func (w *World) double(s api.Step) api.Errno {
	i, ok := w.find(s.N)
	if !ok {
		return api.ErrNone
	}
	if w.room() == 0 {
		return api.ErrLimit
	}
	w.send(w.mails[i])
	return api.OK
}

// crash lets a station forget of which words it knows: those that were heard are told again, and their receipts come again.
func (w *World) crash(s api.Step) api.Errno {
	if !w.isStation(s.A) {
		return api.ErrArg
	}
	for b := range len(w.talks) {
		if t := w.talk(s.A, b); t != nil {
			t.known, t.due = 0, w.tick
		}
	}
	return api.OK
}
