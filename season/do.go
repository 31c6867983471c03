package season

import (
	"firetower/api"
	"firetower/watch"
)

// Do does a command and returns its reply.
func (p *Play) Do(c api.Command) api.Reply {
	if !formedCommand(c) {
		return api.Reply{Err: api.ErrArg}
	}
	return p.kinds()[c.Kind](c)
}

// kinds returns by what commands are done.
func (p *Play) kinds() map[int]func(c api.Command) api.Reply {
	return map[int]func(c api.Command) api.Reply{
		api.CoTick: p.tick, api.CoTell: p.tell, api.CoMail: p.mail, api.CoLose: p.lose, api.CoDouble: p.double,
		api.CoCrash: p.crash, api.CoTear: p.tear, api.CoFetch: p.fetch, api.CoAdopt: p.adopt,
		api.CoCell: p.ask, api.CoSame: p.ask, api.CoSmokes: p.ask, api.CoSend: p.ask, api.CoDuty: p.ask, api.CoOrder: p.ask,
	}
}

func (p *Play) tick(c api.Command) api.Reply {
	return api.Reply{Err: p.world.Do(api.Step{Kind: api.StTick, N: c.N})}
}

func (p *Play) tell(c api.Command) api.Reply {
	x, station := p.post(c.Tower)
	if x == nil {
		return api.Reply{Err: api.ErrNone}
	}
	if len(x.book) >= api.MaxBookLine {
		return api.Reply{Err: api.ErrLimit}
	}
	text, _ := Text(c.Entry)
	if e := p.world.Do(api.Step{Kind: api.StSay, A: station, B: p.office(), Text: text}); e != api.OK {
		return api.Reply{Err: e}
	}
	x.book = append(x.book, text)
	return api.Reply{N: len(x.book)}
}

// mail lets a mail arrive. The office hears at most one word by this, in its turn, so that how many it has heard is the number of the line.
func (p *Play) mail(c api.Command) api.Reply {
	before := p.heard()
	e := p.world.Do(api.Step{Kind: api.StDeliver, N: c.N})
	for i, words := range p.heard() {
		if n := len(words); n > len(before[i]) {
			p.posts[i].file(n, words[n-1], p.Tick())
		}
	}
	return api.Reply{Err: e}
}

// heard returns the words that the office has heard, by the stations that said them.
func (p *Play) heard() [][]string {
	var out [][]string
	for i := range p.posts {
		out = append(out, p.world.Heard(p.office(), i))
	}
	return out
}

func (p *Play) lose(c api.Command) api.Reply {
	return api.Reply{Err: p.world.Do(api.Step{Kind: api.StLose, N: c.N})}
}

func (p *Play) double(c api.Command) api.Reply {
	return api.Reply{Err: p.world.Do(api.Step{Kind: api.StDouble, N: c.N})}
}

func (p *Play) crash(c api.Command) api.Reply {
	x, station := p.post(c.Tower)
	if x == nil {
		return api.Reply{Err: api.ErrNone}
	}
	return api.Reply{Err: p.world.Do(api.Step{Kind: api.StCrash, A: station})}
}

func (p *Play) tear(c api.Command) api.Reply {
	x, _ := p.post(c.Tower)
	if x == nil {
		return api.Reply{Err: api.ErrNone}
	}
	lines := &x.book
	if c.Office {
		lines = &x.filed
	}
	left, e := Torn(*lines, c.N, c.Line, c.Bytes)
	if e != api.OK {
		return api.Reply{Err: e}
	}
	*lines = left
	return api.Reply{}
}

func (p *Play) fetch(c api.Command) api.Reply {
	x, _ := p.post(c.Tower)
	if x == nil {
		return api.Reply{Err: api.ErrNone}
	}
	out := api.Reply{}
	for i, text := range x.book {
		if _, e := Read(text); e == api.OK && x.file(i+1, text, p.Tick()) {
			out.N++
		}
	}
	return out
}

func (p *Play) adopt(c api.Command) api.Reply {
	w, e, _ := watch.Parse(c.Source)
	if e != api.OK {
		return api.Reply{Err: e}
	}
	all, e := watch.Add(p.versions, api.Version{ID: len(p.versions) + 1, From: c.Day, Watch: w})
	if e != api.OK {
		return api.Reply{Err: e}
	}
	p.versions = all
	return api.Reply{}
}

func (p *Play) ask(c api.Command) api.Reply {
	return Answer(p.setting, p.Known(), p.versions, p.Tick(), c)
}
