package model

import (
	"maps"
	"math/rand"
	"reflect"
	"slices"
	"testing"

	"sacristan/api"
)

// whole is a model that shares nothing with m.
func whole(m *Model) *Model {
	c := *m
	c.inodes = map[int]*inode{}
	for n, x := range m.inodes {
		y := *x
		y.blocks, y.entries = maps.Clone(x.blocks), slices.Clone(x.entries)
		c.inodes[n] = &y
	}
	return &c
}

// someOp is an Op by few names, most of which fail.
func someOp(r *rand.Rand) api.Op {
	s := func() string {
		return []string{"/a", "/b", "/c", "/a/b", "/b/c", "/c/a", "/a/../b/a", "/", "x/y"}[r.Intn(9)]
	}
	op := api.Op{Kind: r.Intn(18), Path: s(), Other: s(), H: r.Intn(4), At: r.Intn(2500) - 20, N: r.Intn(2500) - 20, Data: make([]byte, r.Intn(900))}
	r.Read(op.Data)
	return op
}

// sound tells what is wrong with what is kept.
func sound(m *Model) string {
	links := map[int]int{api.Root: 1}
	for n, x := range m.inodes {
		if n < 1 || n > m.nodes || x == nil {
			return "a number"
		}
		for i, y := range x.entries {
			links[y.Node]++
			if i > 0 && x.entries[i-1].Name >= y.Name {
				return "an order"
			}
		}
		for k, b := range x.blocks {
			if k < 0 || k*api.Body >= x.size {
				return "a block behind the end"
			}
			if end := x.size - k*api.Body; end < api.Body && b != ([api.Body]byte)(append(slices.Clone(b[:end]), make([]byte, api.Body-end)...)) {
				return "bytes behind the end"
			}
		}
	}
	for n, x := range m.inodes {
		if x.links != links[n] || x.links == 0 && !slices.Contains(m.open[:], n) {
			return "links"
		}
		delete(links, n)
	}
	if len(links) > 0 {
		return "an entry of nobody"
	}
	if m.used() > m.room {
		return "room"
	}
	return ""
}

// What fails changes nothing, no copy is changed ever, and what is kept is sound.
func TestKept(t *testing.T) {
	for seed := range int64(100) {
		r := rand.New(rand.NewSource(seed))
		m := New(r.Intn(30), 2+r.Intn(9))
		var copies, were []*Model
		for i := range 300 {
			if i%30 == 0 {
				c := m.Copy()
				copies, were = append(copies, c), append(were, whole(c))
			}
			was, op := whole(m), someOp(r)
			x := m.Do(op)
			if x.E != api.OK && !reflect.DeepEqual(m, was) {
				t.Fatalf("seed %d: %v fails by %d, and changes", seed, op, x.E)
			}
			if op.Kind >= api.OpList && op.Kind <= api.OpReadlink && !reflect.DeepEqual(m, was) {
				t.Fatalf("seed %d: %v changes", seed, op)
			}
			if s := sound(m); s != "" {
				t.Fatalf("seed %d: behind %v %s is wrong", seed, op, s)
			}
		}
		if !reflect.DeepEqual(copies, were) {
			t.Fatalf("seed %d: a copy is changed", seed)
		}
		m.Restart()
		if s := sound(m); s != "" || m.open != [api.MaxHandles]int{} || !reflect.DeepEqual(copies, were) {
			t.Fatalf("seed %d: behind Restart it is wrong", seed)
		}
	}
}

// numbers asks whose a name is.
func numbers(t *testing.T, m *Model, want map[string]int) {
	t.Helper()
	for s, n := range want {
		if got, _ := m.find(s, false); got != n {
			t.Errorf("%s is the inode %d, not %d", s, got, n)
		}
	}
}

// A new inode is the least that is free.
func TestLeast(t *testing.T) {
	m := New(30, 5)
	do := func(l ...api.Op) {
		t.Helper()
		for _, op := range l {
			if r := m.Do(op); r.E != api.OK {
				t.Fatalf("%v tells %d", op, r.E)
			}
		}
	}
	do(api.Op{Kind: api.OpMkdir, Path: "/a"}, api.Op{Kind: api.OpCreate, Path: "/b"}, api.Op{Kind: api.OpSymlink, Path: "x", Other: "/c"})
	numbers(t, m, map[string]int{"/": 1, "/a": 2, "/b": 3, "/c": 4})
	do(api.Op{Kind: api.OpUnlink, Path: "/b"}, api.Op{Kind: api.OpRmdir, Path: "/a"}, api.Op{Kind: api.OpCreate, Path: "/d"}, api.Op{Kind: api.OpMkdir, Path: "/e"}, api.Op{Kind: api.OpCreate, Path: "/f"})
	numbers(t, m, map[string]int{"/c": 4, "/d": 2, "/e": 3, "/f": 5})
	// While it is open, it is not free.
	do(api.Op{Kind: api.OpOpen, Path: "/d"}, api.Op{Kind: api.OpUnlink, Path: "/d"}, api.Op{Kind: api.OpUnlink, Path: "/f"}, api.Op{Kind: api.OpCreate, Path: "/g"})
	numbers(t, m, map[string]int{"/g": 5})
	do(api.Op{Kind: api.OpClose}, api.Op{Kind: api.OpCreate, Path: "/h"}, api.Op{Kind: api.OpRename, Path: "/h", Other: "/e/h"})
	numbers(t, m, map[string]int{"/e/h": 2})
}
