package season

import (
	"slices"

	"firetower/api"
	"firetower/relay"
	"firetower/watch"
)

// Play is a season.
type Play struct {
	setting  api.Setting
	world    *relay.World
	posts    []post // by the stations of their towers
	versions []api.Version
}

// New returns a season at its beginning.
func New(s api.Setting) (*Play, api.Errno) {
	if e := CheckSetting(s); e != api.OK {
		return nil, e
	}
	p := &Play{setting: copied(s), posts: make([]post, len(s.Service.Country.Towers))}
	p.world, _ = relay.New(p.office()+1, s.Wait)
	return p, api.OK
}

// office returns the station of the office.
func (p *Play) office() int { return len(p.posts) }

// post returns the post of a tower, with its station; nil if there is no such tower.
func (p *Play) post(tower int) (*post, int) {
	i := stationOf(p.setting, tower)
	if i < 0 {
		return nil, i
	}
	return &p.posts[i], i
}

// Tick returns the time.
func (p *Play) Tick() int { return p.world.Tick() }

// Book returns the lines of a tower's book.
func (p *Play) Book(tower int) []string {
	if x, _ := p.post(tower); x != nil {
		return slices.Clone(x.book)
	}
	return nil
}

// Copy returns the lines of the office's copy of a tower's book.
func (p *Play) Copy(tower int) []string {
	if x, _ := p.post(tower); x != nil {
		return slices.Clone(x.filed)
	}
	return nil
}

// Mails returns the mails on their way.
func (p *Play) Mails() []api.Mail { return p.world.Mails() }

// Known returns the entries that the office can read.
func (p *Play) Known() []api.Entered {
	var ids []int
	for _, t := range p.setting.Service.Country.Towers {
		ids = append(ids, t.ID)
	}
	slices.Sort(ids)
	var out []api.Entered
	for _, id := range ids {
		x, _ := p.post(id)
		out = append(out, x.known(id)...)
	}
	return out
}

// Versions returns the watches that were adopted.
func (p *Play) Versions() []api.Version {
	var out []api.Version
	for _, v := range p.versions {
		// InForce returns new memory.
		own, _ := watch.InForce(p.versions, v.From)
		out = append(out, own)
	}
	return out
}
