package season_test

import (
	"cmp"
	"slices"
	"testing"

	"firetower/api"
	"firetower/relay"
	"firetower/season"
	"firetower/watch"
)

// filed is a line of the office's copy of a book.
type filed struct {
	text  string
	since int
}

// plainPlay is a season that is kept as the chapter says, with the world of layer 2.
type plainPlay struct {
	s        api.Setting
	world    *relay.World
	books    map[int][]string
	copies   map[int][]filed
	versions []api.Version
}

func newPlain(t *testing.T, s api.Setting) *plainPlay {
	t.Helper()
	w, e := relay.New(len(s.Service.Country.Towers)+1, s.Wait)
	mustBe(t, e, api.OK, "relay.New")
	return &plainPlay{s: s, world: w, books: map[int][]string{}, copies: map[int][]filed{}}
}

// ids returns the IDs of the towers by their stations.
func (p *plainPlay) ids() []int {
	var out []int
	for _, t := range p.s.Service.Country.Towers {
		out = append(out, t.ID)
	}
	return out
}

// texts returns the lines of the office's copy of a book.
func (p *plainPlay) texts(tower int) []string {
	var out []string
	for _, x := range p.copies[tower] {
		out = append(out, x.text)
	}
	return out
}

// put makes a text a line of a copy, and reports whether it was not that line.
func (p *plainPlay) put(tower, line int, text string) bool {
	for len(p.copies[tower]) < line {
		p.copies[tower] = append(p.copies[tower], filed{})
	}
	if p.copies[tower][line-1].text == text {
		return false
	}
	p.copies[tower][line-1] = filed{text, p.world.Tick()}
	return true
}

func (p *plainPlay) known() []api.Entered {
	var out []api.Entered
	for tower, l := range p.copies {
		for i, x := range l {
			if e, is := plainRead(x.text); is {
				out = append(out, in(tower, i+1, x.since, e))
			}
		}
	}
	slices.SortFunc(out, func(a, b api.Entered) int { return cmp.Or(cmp.Compare(a.Tower, b.Tower), cmp.Compare(a.Line, b.Line)) })
	return out
}

func (p *plainPlay) do(c api.Command) api.Reply {
	if !plainCommand(c) {
		return api.Reply{Err: api.ErrArg}
	}
	steps := map[int]int{api.CoTick: api.StTick, api.CoLose: api.StLose, api.CoDouble: api.StDouble}
	switch {
	case steps[c.Kind] > 0:
		return api.Reply{Err: p.world.Do(api.Step{Kind: steps[c.Kind], N: c.N})}
	case c.Kind == api.CoMail:
		return p.mail(c)
	case c.Kind == api.CoAdopt:
		return p.adopt(c)
	case c.Kind >= api.CoCell:
		return plainAnswer(asked{p.s, p.known(), p.versions, p.world.Tick(), c})
	case !hasTower(p.s, c.Tower):
		return api.Reply{Err: api.ErrNone}
	}
	return p.atTower(c)
}

func (p *plainPlay) mail(c api.Command) api.Reply {
	l := p.world.Mails()
	i := slices.IndexFunc(l, func(m api.Mail) bool { return m.ID == c.N })
	if i < 0 {
		return api.Reply{Err: api.ErrNone}
	}
	m, office := l[i], len(p.ids())
	before := len(p.world.Heard(office, m.From))
	e := p.world.Do(api.Step{Kind: api.StDeliver, N: c.N})
	if m.Kind == api.MaWord && m.To == office && m.Number == before+1 {
		p.put(p.ids()[m.From], m.Number, m.Text)
	}
	return api.Reply{Err: e}
}

func (p *plainPlay) adopt(c api.Command) api.Reply {
	w, e, _ := watch.Parse(c.Source)
	if e != api.OK {
		return api.Reply{Err: e}
	}
	l, e := watch.Add(p.versions, api.Version{ID: len(p.versions) + 1, From: c.Day, Watch: w})
	if e == api.OK {
		p.versions = l
	}
	return api.Reply{Err: e}
}

// atTower does a command for a tower that there is.
func (p *plainPlay) atTower(c api.Command) api.Reply {
	station := slices.Index(p.ids(), c.Tower)
	book := p.books[c.Tower]
	switch c.Kind {
	case api.CoTell:
		text := plainText(c.Entry)
		if len(book) == 80 {
			return api.Reply{Err: api.ErrLimit}
		}
		if e := p.world.Do(api.Step{Kind: api.StSay, A: station, B: len(p.ids()), Text: text}); e != api.OK {
			return api.Reply{Err: e}
		}
		p.books[c.Tower] = append(book, text)
		return api.Reply{N: len(book) + 1}
	case api.CoCrash:
		return api.Reply{Err: p.world.Do(api.Step{Kind: api.StCrash, A: station})}
	case api.CoFetch:
		n := 0
		for i, text := range book {
			if _, is := plainRead(text); is && p.put(c.Tower, i+1, text) {
				n++
			}
		}
		return api.Reply{N: n}
	}
	if !c.Office {
		l, e := plainTorn(book, c.N, c.Line, c.Bytes)
		if e == api.OK {
			p.books[c.Tower] = l
		}
		return api.Reply{Err: e}
	}
	l, e := plainTorn(p.texts(c.Tower), c.N, c.Line, c.Bytes)
	for i, text := range l {
		p.copies[c.Tower][i].text = text
	}
	return api.Reply{Err: e}
}

// both is a season and the plain one, which do the same.
type both struct {
	t     *testing.T
	p     *season.Play
	plain *plainPlay
}

func newBoth(t *testing.T, s api.Setting) both {
	t.Helper()
	return both{t, play(t, s), newPlain(t, s)}
}

// do does commands in both, and ends a test if they differ.
func (b both) do(l ...api.Command) api.Reply {
	b.t.Helper()
	var out api.Reply
	for _, c := range l {
		out = b.p.Do(c)
		if want := b.plain.do(c); !same(out, want) {
			b.t.Fatalf("%+v: %+v instead of %+v", c, out, want)
		}
		b.compare(c)
	}
	return out
}

// compare ends a test if what is told of both seasons differs.
func (b both) compare(c api.Command) {
	b.t.Helper()
	if got, want := b.p.Known(), b.plain.known(); !same(got, want) {
		b.t.Fatalf("%+v: known: %+v instead of %+v", c, got, want)
	}
	if got, want := b.p.Mails(), b.plain.world.Mails(); !same(got, want) {
		b.t.Fatalf("%+v: mails: %+v instead of %+v", c, got, want)
	}
	if got, want := b.p.Versions(), b.plain.versions; !same(got, want) {
		b.t.Fatalf("%+v: versions: %+v instead of %+v", c, got, want)
	}
	if got, want := b.p.Tick(), b.plain.world.Tick(); got != want {
		b.t.Fatalf("%+v: tick: %d instead of %d", c, got, want)
	}
	for _, tower := range append(b.plain.ids(), 0, -1, 99) {
		if got, want := b.p.Book(tower), b.plain.books[tower]; !same(got, want) {
			b.t.Fatalf("%+v: book %d: %q instead of %q", c, tower, got, want)
		}
		if got, want := b.p.Copy(tower), b.plain.texts(tower); !same(got, want) {
			b.t.Fatalf("%+v: copy %d: %q instead of %q", c, tower, got, want)
		}
	}
}
