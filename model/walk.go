package model

import (
	"sacristan/api"
	"sacristan/entry"
	"sacristan/path"
)

// above is the name that leads back.
const above = ".."

// trail is inodes, from the top on, each of which is an entry of the one ahead of it.
type trail []int

// end is the last one.
func (t trail) end() int { return t[len(t)-1] }

// parse is a path's names.
func parse(s string) api.Path {
	p, e := path.Parse(s)
	failIf(e != api.OK, e)
	return p
}

// dir is the inode of that number, which has to be a Dir.
func (m *Model) dir(n int) *inode {
	x := m.inodes[n]
	failIf(x.kind != api.Dir, api.ErrNotDir)
	return x
}

// walk goes from the top on, name by name; through a link at the end, too, if it is said.
func (m *Model) walk(p api.Path, through bool) trail {
	failIf(m.inodes[api.Root] == nil, api.ErrNone)
	t := trail{api.Root}
	hops := 0
walking:
	for len(p.Names) > 0 {
		here, name := m.dir(t.end()), p.Names[0]
		p = api.Path{Names: p.Names[1:]}
		if name == above {
			t = t[:max(len(t)-1, 1)]
			continue walking
		}
		n, is := entry.Find(here.entries, name)
		failIf(!is, api.ErrNone)
		x := m.inodes[n]
		if x.kind != api.Link || len(p.Names) == 0 && !through {
			t = append(t, n)
			continue walking
		}
		hops++
		failIf(hops > api.MaxHops, api.ErrLoop)
		p = path.Join(parse(x.text), p)
		if p.Abs {
			t = t[:1]
		}
	}
	return t
}

// find is the inode that a path leads to, and its number.
func (m *Model) find(s string, through bool) (int, *inode) {
	n := m.walk(parse(s), through).end()
	return n, m.inodes[n]
}

// place is where an entry is, or may be laid: a name in a Dir.
type place struct {
	in   trail
	name string
}

// place is where the last name of a path stands.
func (m *Model) place(s string) place {
	ahead, name, e := path.Last(parse(s))
	failIf(e != api.OK, e)
	t := m.walk(ahead, true)
	m.dir(t.end())
	return place{t, name}
}

// at is the inode whose entry is at a place, and its number; nil, if there is none.
func (m *Model) at(p place) (int, *inode) {
	n, is := entry.Find(m.dir(p.in.end()).entries, p.name)
	if !is {
		return 0, nil
	}
	return n, m.inodes[n]
}

// there is at, where there has to be one.
func (m *Model) there(p place) (int, *inode) {
	n, x := m.at(p)
	failIf(x == nil, api.ErrNone)
	return n, x
}
