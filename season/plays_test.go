package season_test

import (
	"slices"
	"testing"

	"firetower/api"
	"firetower/season"
)

func TestP10_7New(t *testing.T) {
	for _, s := range []api.Setting{flat(), posts(0), posts(8)} {
		p := play(t, s)
		if p.Tick() != 0 || len(p.Mails()) > 0 || len(p.Known()) > 0 || len(p.Versions()) > 0 {
			t.Error(p.Tick(), p.Mails(), p.Known(), p.Versions())
		}
		for tower := -1; tower < 10; tower++ {
			if len(p.Book(tower)) > 0 || len(p.Copy(tower)) > 0 {
				t.Error(p.Book(tower), p.Copy(tower))
			}
		}
	}
	for _, x := range wrongSettings() {
		s := flat()
		x.do(&s)
		if p, e := season.New(s); p != nil || e != x.e {
			t.Error(x.name, p, e)
		}
	}
}

// What is known comes by the IDs of the towers, the stations are in the order of the setting, and versions come by their days.
func TestP10_7Orders(t *testing.T) {
	p := play(t, posts(4))
	did(t, p, tell(2, back(1)), tell(4, back(2)), tell(4, back(3)), tell(1, back(4)))
	var l [][2]int
	for _, m := range p.Mails() {
		l = append(l, [2]int{m.From, m.To})
	}
	if !same(l, [][2]int{{2, 4}, {0, 4}, {0, 4}, {3, 4}}) {
		t.Error(l)
	}
	did(t, p, tick(7), fetch(4), tick(8), fetch(2), mail(4))
	want := []api.Entered{in(1, 1, 8, back(4)), in(2, 1, 8, back(1)), in(4, 1, 7, back(2)), in(4, 2, 7, back(3))}
	if got := p.Known(); !same(got, want) {
		t.Error(got)
	}
	did(t, p, adopt(9, ""), adopt(3, sources()[1]), adopt(5, sources()[3]))
	var days [][2]int
	for _, v := range p.Versions() {
		days = append(days, [2]int{v.From, v.ID})
	}
	if !same(days, [][2]int{{3, 2}, {5, 3}, {9, 1}}) || len(p.Versions()[0].Watch.Orders) != 2 {
		t.Error(p.Versions())
	}
}

// A command that is not formed changes nothing.
func TestP10_8WrongCommands(t *testing.T) {
	b := newBoth(t, flat())
	b.do(tell(1, sight(5, 1, 20, 450)), tell(2, sight(6, 2, 30, 1350)), mail(1), tick(3), adopt(2, sources()[1]))
	for _, c := range wrongCommands() {
		if r := b.do(c); !same(r, api.Reply{Err: api.ErrArg}) {
			t.Errorf("%+v: %+v", c, r)
		}
	}
}

func TestP10_8Tick(t *testing.T) {
	b := newBoth(t, flat())
	b.do(tell(1, back(1)))
	said(t, b.p, tick(5), "ok")
	said(t, b.p, tick(4), "error 1")
	said(t, b.p, tick(5), "ok")
	if n := len(b.p.Mails()); n != 1 || b.p.Tick() != 5 {
		t.Error(n, b.p.Tick())
	}
	// A word is sent again when it is due, after the Wait of the setting.
	said(t, b.p, tick(9), "ok")
	if n := len(b.p.Mails()); n != 1 {
		t.Error(n)
	}
	said(t, b.p, tick(10), "ok")
	if n := len(b.p.Mails()); n != 2 {
		t.Error(n)
	}
	said(t, b.p, tick(1<<20), "ok")
	said(t, b.p, tick(1<<20-1), "error 1")
}

func TestP10_8Tell(t *testing.T) {
	p := play(t, flat())
	said(t, p, tell(1, sight(5, 1, 20, 450)), "line 1")
	said(t, p, tell(1, back(7)), "line 2")
	said(t, p, tell(2, sight(5, 1, 20, 450)), "line 1")
	said(t, p, tell(3, back(7)), "error 5")
	if !slices.Equal(p.Book(1), []string{"17 s 5 1 20 450 1", "5 x 7"}) || !slices.Equal(p.Book(2), []string{"17 s 5 1 20 450 1"}) || len(p.Book(3)) > 0 {
		t.Error(p.Book(1), p.Book(2))
	}
	want := []api.Mail{
		{ID: 1, Kind: api.MaWord, From: 0, To: 2, Number: 1, Text: "17 s 5 1 20 450 1"},
		{ID: 2, Kind: api.MaWord, From: 0, To: 2, Number: 2, Text: "5 x 7"},
		{ID: 3, Kind: api.MaWord, From: 1, To: 2, Number: 1, Text: "17 s 5 1 20 450 1"},
	}
	if l := p.Mails(); !same(l, want) {
		t.Error(l)
	}
	if len(p.Copy(1)) > 0 || len(p.Known()) > 0 {
		t.Error("the office knows what it was not told")
	}
}

// A tower says at most 60 words to the office, and there are at most 200 mails; what cannot be said is not written.
func TestP10_8TellLimits(t *testing.T) {
	b := newBoth(t, posts(5))
	for tower := 1; tower <= 3; tower++ {
		for i := range 60 {
			if r := b.p.Do(tell(tower, back(i+1))); !same(r, api.Reply{N: i + 1}) {
				t.Fatal(tower, i, r)
			}
			b.plain.do(tell(tower, back(i+1)))
		}
		if r := b.do(tell(tower, back(1))); r.Err != api.ErrLimit || len(b.p.Book(tower)) != 60 {
			t.Error(r, len(b.p.Book(tower)))
		}
	}
	for i := range 20 {
		b.do(tell(4, back(i+1)))
	}
	if r := b.do(tell(4, back(1))); r.Err != api.ErrLimit || len(b.p.Book(4)) != 20 {
		t.Error(r, len(b.p.Book(4)))
	}
	// Without room for a receipt a word is heard all the same.
	if r := b.do(double(1)); r.Err != api.ErrLimit {
		t.Error(r)
	}
	b.do(mail(1), lose(2), mail(3), tell(4, back(1)), mail(121))
}

func TestP10_8Mail(t *testing.T) {
	p := play(t, flat())
	did(t, p, tell(1, sight(5, 1, 20, 450)), tell(1, back(7)), tick(5))
	// A word ahead of its turn is not heard.
	said(t, p, mail(2), "ok")
	if len(p.Known()) > 0 || len(p.Copy(1)) > 0 {
		t.Error(p.Copy(1))
	}
	said(t, p, mail(1), "ok")
	first := in(1, 1, 5, sight(5, 1, 20, 450))
	if got := p.Known(); !same(got, []api.Entered{first}) || !slices.Equal(p.Copy(1), []string{"17 s 5 1 20 450 1"}) {
		t.Error(got, p.Copy(1))
	}
	said(t, p, mail(1), "error 5")
	said(t, p, mail(100), "error 5")
	// It is sent again, doubled, and heard once.
	did(t, p, tick(10), double(6))
	for _, m := range p.Mails() {
		said(t, p, mail(m.ID), "ok")
	}
	if got := p.Known(); !same(got, []api.Entered{first, in(1, 2, 10, back(7))}) {
		t.Error(got)
	}
	did(t, p, tick(30))
	for _, m := range p.Mails() {
		said(t, p, mail(m.ID), "ok")
	}
	if got := p.Known(); !same(got, []api.Entered{first, in(1, 2, 10, back(7))}) {
		t.Error(got)
	}
}

func TestP10_8LoseDoubleCrash(t *testing.T) {
	b := newBoth(t, flat())
	b.do(tell(1, back(7)), tell(1, back(8)))
	said(t, b.p, lose(1), "ok")
	said(t, b.p, lose(1), "error 5")
	said(t, b.p, double(1), "error 5")
	said(t, b.p, double(2), "ok")
	said(t, b.p, crash(3), "error 5")
	said(t, b.p, crash(2), "ok")
	if l := b.p.Mails(); len(l) != 2 || l[1].ID != 3 || l[1].Text != "5 x 8" {
		t.Error(l)
	}
	said(t, b.p, crash(1), "ok")
	said(t, b.p, tick(0), "ok")
	if l := b.p.Mails(); len(l) != 4 {
		t.Error(l)
	}
	if len(b.p.Known()) > 0 || len(b.p.Copy(1)) > 0 {
		t.Error(b.p.Copy(1))
	}
}

func TestP10_8Tear(t *testing.T) {
	b := newBoth(t, flat())
	for i := range 10 {
		b.do(tell(1, back(i+1)))
	}
	for _, m := range b.p.Mails() {
		b.do(mail(m.ID))
	}
	for _, x := range []struct {
		c    api.Command
		want string
	}{
		{tear(3, 0, 0, 0), "error 5"}, {tearCopy(3, 0, 0, 0), "error 5"}, {tear(2, 0, 0, 0), "error 1"}, {tearCopy(2, 0, 0, 0), "error 1"}, {tear(1, 2, 0, 0), "error 1"},
		{tear(1, 1, 3, 0), "error 1"}, {tearCopy(1, 1, 3, 0), "error 1"}, {tearCopy(1, 9, 0, 0), "error 1"}, {tear(1, 1, 2, 2), "ok"}, {tearCopy(1, 0, 2, 100), "ok"}, {tearCopy(1, 1, 1, 0), "ok"},
	} {
		if got := plainReply(x.c, b.do(x.c)); got != x.want {
			t.Error(x.c, got, "instead of", x.want)
		}
	}
	want := []string{"5 x 1", "5 x 2", "5 x 3", "5 x 4", "5 x 5", "5 x 6", "5 x 7", "5 x 8", "5 x 9", "6"}
	if got := b.p.Book(1); !slices.Equal(got, append(want[:9:9], "6 ")) {
		t.Errorf("%q", got)
	}
	if got := b.p.Copy(1); !slices.Equal(got, []string{"5 x 1", "5 x 2", "", "", "", "", "", "", "", ""}) {
		t.Errorf("%q", got)
	}
	// The next line comes behind those that are torn; what was heard is not said again.
	did(t, b.p, tear(1, 1, 0, 0), tell(1, back(11)), crash(1), tick(50))
	for _, m := range b.p.Mails() {
		did(t, b.p, mail(m.ID))
	}
	if got := b.p.Copy(1); !slices.Equal(got, []string{"5 x 1", "5 x 2", "", "", "", "", "", "", "", "", "6 x 11"}) {
		t.Errorf("%q", got)
	}
}

// A mail is whole, whatever page of the book has been torn.
func TestP10_8TearBehindMails(t *testing.T) {
	p := play(t, flat())
	did(t, p, tell(1, sight(5, 1, 20, 450)), tear(1, 0, 0, 0), mail(1))
	if got := p.Known(); !same(got, []api.Entered{in(1, 1, 0, sight(5, 1, 20, 450))}) {
		t.Error(got)
	}
	if got := p.Book(1); !slices.Equal(got, []string{""}) {
		t.Error(got)
	}
}

func TestP10_8Fetch(t *testing.T) {
	p := play(t, flat())
	did(t, p, tell(1, sight(5, 1, 20, 450)), tell(1, back(7)), tell(1, back(8)), mail(1), tick(8))
	said(t, p, fetch(3), "error 5")
	said(t, p, fetch(2), "new 0")
	said(t, p, fetch(1), "new 2")
	first, second, third := in(1, 1, 0, sight(5, 1, 20, 450)), in(1, 2, 8, back(7)), in(1, 3, 8, back(8))
	if got := p.Known(); !same(got, []api.Entered{first, second, third}) {
		t.Error(got)
	}
	did(t, p, tick(9))
	said(t, p, fetch(1), "new 0")
	// A line that comes as a mail, and is there already, is known from before.
	did(t, p, mail(2))
	if got := p.Known(); !same(got, []api.Entered{first, second, third}) {
		t.Error(got)
	}
	// What is torn out of the copy is known anew, from then on; as a mail, too.
	did(t, p, tearCopy(1, 0, 1, 50))
	if got := p.Known(); !same(got, []api.Entered{first}) {
		t.Error(got)
	}
	did(t, p, tick(9), mail(3))
	third.Tick = 9
	if got := p.Known(); !same(got, []api.Entered{first, third}) {
		t.Error(got)
	}
	did(t, p, tick(9+1))
	said(t, p, fetch(1), "new 1")
	second.Tick = 10
	if got := p.Known(); !same(got, []api.Entered{first, second, third}) {
		t.Error(got)
	}
	// Torn lines are not brought; those of the copy stay.
	did(t, p, tear(1, 0, 2, 3), tearCopy(1, 0, 2, 5), tick(11))
	said(t, p, fetch(1), "new 0")
	if got := p.Known(); !same(got, []api.Entered{first, second}) || !slices.Equal(p.Book(1), []string{"17 s 5 1 20 450 1", "5 x", ""}) {
		t.Error(got, p.Book(1))
	}
}

// A copy has as many lines as the greatest number of a line that came into it.
func TestP10_8Copy(t *testing.T) {
	p := play(t, flat())
	did(t, p, tell(1, back(1)), tell(1, back(2)), tell(1, back(3)), tear(1, 0, 1, 50), tell(1, back(4)), tell(1, back(5)), tear(1, 0, 4, 9))
	said(t, p, fetch(1), "new 2")
	if got := p.Copy(1); !slices.Equal(got, []string{"5 x 1", "", "", "5 x 4"}) {
		t.Errorf("%q", got)
	}
	did(t, p, mail(1), mail(2))
	if got := p.Copy(1); !slices.Equal(got, []string{"5 x 1", "5 x 2", "", "5 x 4"}) {
		t.Errorf("%q", got)
	}
}

func TestP10_8Adopt(t *testing.T) {
	b := newBoth(t, flat())
	for _, x := range []struct {
		day  int
		want string
	}{{5, "ok"}, {5, "error 6"}, {400, "ok"}, {0, "ok"}, {0, "error 6"}} {
		if got := plainReply(tick(0), b.do(adopt(x.day, sources()[1]))); got != x.want {
			t.Error(x, got)
		}
	}
	if l := b.p.Versions(); len(l) != 3 || l[0].ID != 3 || l[1].ID != 1 || l[2].ID != 2 {
		t.Error(l)
	}
	for day := 10; len(b.p.Versions()) < 20; day++ {
		b.do(adopt(day, ""))
	}
	said(t, b.p, adopt(399, ""), "error 2")
	said(t, b.p, adopt(5, ""), "error 6")
	if l := b.p.Versions(); len(l) != 20 {
		t.Error(len(l))
	}
}

// Questions are answered by what is known, the versions, and the time.
func TestP10_8Questions(t *testing.T) {
	p := play(t, flat())
	did(t, p, tell(1, sight(5, 1, 20, 450)), tell(2, sight(6, 2, 30, 1350)), tick(3), fetch(1), tick(7), fetch(2), adopt(2, sources()[1]))
	for _, x := range []struct {
		c    api.Command
		want string
	}{
		{askCell(7, 5, 6), "cell 1 10 10"}, {askCell(6, 5, 6), "error 5"}, {askCell(2, 5), "error 5"}, {askSame(7, 5, 6), "yes"}, {askSame(6, 5, 6), "error 5"}, {askSmokes(7), "smokes 1 2 5 6"},
		{askSmokes(6), "smokes 1 1 5"}, {askSmokes(2), "smokes 0"}, {askSend(40, 7), "send 56 0 0"}, {askSend(40, 2), "send 0"}, {askDuty(1, "north"), "error 5"}, {askDuty(2, "north"), "duty ann"},
		{askDuty(10, "north"), "duty"}, {askDuty(2, "south"), "duty"}, {askOrder(5, 7), "error 5"},
	} {
		said(t, p, x.c, x.want)
	}
	did(t, p, tick(2880))
	said(t, p, askOrder(5, 7), "order send")
	said(t, p, askOrder(6, 6), "error 5")
}

// Random commands are done as the plain version does them.
func TestP10_8Random(t *testing.T) {
	r := random(8)
	kinds := map[int]int{}
	for range 400 {
		s := randomScript(r, 60)
		b := newBoth(t, s.Setting)
		for _, c := range s.Commands {
			if b.do(c).Err == api.OK {
				kinds[c.Kind]++
			}
		}
	}
	for kind := api.CoTick; kind <= api.CoOrder; kind++ {
		counted(t, "commands that are done", kinds[kind], 30)
	}
}

// What the office knows was told so, at a tower with this ID, as the line with this number.
func TestP10_17KnownWasTold(t *testing.T) {
	r := random(9)
	n := 0
	for range 300 {
		s := randomScript(r, 80)
		p := play(t, s.Setting)
		told := map[[2]int]api.Entry{}
		for _, c := range s.Commands {
			x := p.Do(c)
			if c.Kind == api.CoTell && x.Err == api.OK {
				told[[2]int{c.Tower, x.N}] = c.Entry
			}
			for _, k := range p.Known() {
				e, is := told[[2]int{k.Tower, k.Line}]
				if !is || e != k.Entry || k.Tick < 0 || k.Tick > p.Tick() {
					t.Fatal(c, k, e)
				}
				n++
			}
		}
	}
	counted(t, "entries that are known", n, 10000)
}

// Behind a fetch of each tower the office knows all, if no page of a book is torn.
func TestP10_17Fetched(t *testing.T) {
	r := random(10)
	n := 0
	for range 200 {
		s := randomScript(r, 80)
		p := play(t, s.Setting)
		var all []api.Entry
		for _, c := range s.Commands {
			if c.Kind == api.CoTear && !c.Office {
				continue
			}
			if x := p.Do(c); c.Kind == api.CoTell && x.Err == api.OK {
				all = append(all, c.Entry)
			}
		}
		for _, x := range s.Setting.Service.Country.Towers {
			did(t, p, fetch(x.ID))
			if !slices.Equal(p.Book(x.ID), p.Copy(x.ID)) {
				t.Fatal(p.Book(x.ID), p.Copy(x.ID))
			}
		}
		if k := p.Known(); len(k) != len(all) {
			t.Fatal(len(k), "instead of", len(all))
		}
		n += len(all)
	}
	counted(t, "entries", n, 2000)
}

// As known at a minute, nothing changes by what comes to be known later.
func TestP10_17AsKnownBefore(t *testing.T) {
	r := random(11)
	n := 0
	for range 200 {
		s := randomScript(r, 60)
		p := play(t, s.Setting)
		for _, c := range s.Commands[:40] {
			p.Do(c)
		}
		known := p.Tick()
		var questions []api.Command
		for range 6 {
			q := randomQuestion(r, known, known)
			if q.Kind != api.CoDuty && q.Kind != api.CoOrder {
				questions = append(questions, q)
			}
		}
		var before []api.Reply
		for _, q := range questions {
			before = append(before, p.Do(q))
		}
		did(t, p, tick(known+1))
		more := 0
		for _, c := range s.Commands[40:] {
			if c.Kind != api.CoTear && c.Kind != api.CoTick {
				p.Do(c)
			}
		}
		for _, x := range p.Known() {
			if x.Tick > known {
				more++
			}
		}
		for i, q := range questions {
			if got := p.Do(q); !same(got, before[i]) {
				t.Fatal(q, got, "instead of", before[i])
			}
			n += min(more, 1)
		}
	}
	counted(t, "questions behind which something came to be known", n, 200)
}
