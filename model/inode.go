package model

import (
	"slices"

	"sacristan/api"
	"sacristan/node"
)

// inode is a file, a directory, or a link.
type inode struct {
	kind    int
	links   int
	size    int                    // of a File
	blocks  map[int][api.Body]byte // of a File: those that are there
	entries []api.Entry            // of a Dir: rising
	text    string                 // of a Link
}

// bytes is how many an inode has.
func (x *inode) bytes() int {
	switch x.kind {
	case api.Dir:
		return len(x.entries) * api.Wide
	case api.Link:
		return len(x.text)
	}
	return x.size
}

// far is whether a File has a block that is none of the direct ones.
func (x *inode) far() bool {
	for k := range x.blocks {
		if k >= api.Direct {
			return true
		}
	}
	return false
}

// cost is how many blocks an inode takes, with the one that tells which these are, where it takes such.
func (x *inode) cost() int {
	n, indexed := 1, false
	switch x.kind {
	case api.Dir:
		n = node.Blocks(x.bytes())
		indexed = n > api.Direct
	case api.File:
		n = len(x.blocks)
		indexed = x.far()
	}
	if indexed {
		n++
	}
	return n
}

// used is what all inodes cost.
func (m *Model) used() int {
	n := 0
	for _, x := range m.inodes {
		n += x.cost()
	}
	return n
}

// change puts a copy in the place of an inode, and tells it, to be written: other models may have the inode itself. Its
// blocks, and its entries, are still the same ones.
func (m *Model) change(n int) *inode {
	x := *m.inodes[n]
	m.inodes[n] = &x
	return &x
}

// least is the least number that is free.
func (m *Model) least() int {
	n := 1
	for m.inodes[n] != nil {
		n++
	}
	failIf(n > m.nodes, api.ErrNodes)
	return n
}

// forget lets an inode go that has neither a name nor a handle.
func (m *Model) forget(n int) {
	if x := m.inodes[n]; x != nil && x.links == 0 && !slices.Contains(m.open[:], n) {
		delete(m.inodes, n)
	}
}
