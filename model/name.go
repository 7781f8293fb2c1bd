package model

import (
	"slices"

	"sacristan/api"
	"sacristan/entry"
)

// mostEntries is how many a Dir may have.
const mostEntries = api.MaxSize / api.Wide

// fits ends an Op, if no entry may be laid there any more.
func (m *Model) fits(p place) {
	failIf(len(m.dir(p.in.end()).entries) >= mostEntries, api.ErrBig)
}

// vacant ends an Op, if there is an entry already, or none may be laid.
func (m *Model) vacant(p place) {
	_, x := m.at(p)
	failIf(x != nil, api.ErrExist)
	m.fits(p)
}

// lay lays an entry. Whether it may be laid is asked ahead.
func (m *Model) lay(p place, n int) {
	d := m.change(p.in.end())
	d.entries, _ = entry.Put(d.entries, api.Entry{Name: p.name, Node: n})
}

// lift takes an entry away, but not what it is of.
func (m *Model) lift(p place) {
	d := m.change(p.in.end())
	d.entries, _ = entry.Drop(d.entries, p.name)
}

// remove takes an entry away, and what it is of, if that was its last name, and it has no handle.
func (m *Model) remove(p place) {
	n, _ := m.at(p)
	m.lift(p)
	m.change(n).links--
	m.forget(n)
}

// add lays an entry of something new.
func (m *Model) add(s string, x inode) api.Result {
	p := m.place(s)
	m.vacant(p)
	n := m.least()
	x.links = 1
	m.inodes[n] = &x
	m.lay(p, n)
	return api.Result{}
}

func (m *Model) mkdir(op api.Op) api.Result {
	return m.add(op.Path, inode{kind: api.Dir})
}

func (m *Model) create(op api.Op) api.Result {
	return m.add(op.Path, inode{kind: api.File, blocks: map[int][api.Body]byte{}})
}

func (m *Model) symlink(op api.Op) api.Result {
	// The text is kept as it is; it has to be a path all the same.
	parse(op.Path)
	return m.add(op.Other, inode{kind: api.Link, text: op.Path})
}

func (m *Model) rmdir(op api.Op) api.Result {
	p := m.place(op.Path)
	_, x := m.there(p)
	failIf(x.kind != api.Dir, api.ErrNotDir)
	failIf(len(x.entries) > 0, api.ErrFilled)
	m.remove(p)
	return api.Result{}
}

func (m *Model) unlink(op api.Op) api.Result {
	p := m.place(op.Path)
	_, x := m.there(p)
	failIf(x.kind == api.Dir, api.ErrDir)
	m.remove(p)
	return api.Result{}
}

func (m *Model) link(op api.Op) api.Result {
	n, x := m.find(op.Path, false)
	failIf(x.kind == api.Dir, api.ErrDir)
	p := m.place(op.Other)
	m.vacant(p)
	failIf(x.links >= api.MaxLinks, api.ErrBig)
	m.lay(p, n)
	m.change(n).links++
	return api.Result{}
}

func (m *Model) rename(op api.Op) api.Result {
	from := m.place(op.Path)
	n, x := m.there(from)
	to := m.place(op.Other)
	// Else it would be cut off from the top.
	failIf(slices.Contains(to.in, n), api.ErrArg)
	if o, old := m.at(to); old != nil {
		if o == n {
			return api.Result{}
		}
		failIf(x.kind == api.Dir && old.kind != api.Dir, api.ErrNotDir)
		failIf(old.kind == api.Dir && x.kind != api.Dir, api.ErrDir)
		failIf(len(old.entries) > 0, api.ErrFilled)
		m.remove(to)
	}
	m.lift(from)
	m.fits(to)
	m.lay(to, n)
	return api.Result{}
}
