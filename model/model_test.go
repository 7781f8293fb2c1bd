package model_test

import (
	"math"
	"testing"

	"sacristan/api"
	"sacristan/model"
)

// asked is a model that a test asks.
type asked struct {
	*testing.T
	m *model.Model
}

func ask(t *testing.T, room int, nodes int) asked {
	return asked{t, model.New(room, nodes)}
}

// Ops, by what they are of.
func mkdir(s string) api.Op    { return api.Op{Kind: api.OpMkdir, Path: s} }
func rmdir(s string) api.Op    { return api.Op{Kind: api.OpRmdir, Path: s} }
func create(s string) api.Op   { return api.Op{Kind: api.OpCreate, Path: s} }
func unlink(s string) api.Op   { return api.Op{Kind: api.OpUnlink, Path: s} }
func list(s string) api.Op     { return api.Op{Kind: api.OpList, Path: s} }
func stat(s string) api.Op     { return api.Op{Kind: api.OpStat, Path: s} }
func lstat(s string) api.Op    { return api.Op{Kind: api.OpStat, Path: s, N: 1} }
func readlink(s string) api.Op { return api.Op{Kind: api.OpReadlink, Path: s} }
func open(s string) api.Op     { return api.Op{Kind: api.OpOpen, Path: s} }
func closing(h int) api.Op     { return api.Op{Kind: api.OpClose, H: h} }

func link(s string, name string) api.Op {
	return api.Op{Kind: api.OpLink, Path: s, Other: name}
}
func symlink(text string, name string) api.Op {
	return api.Op{Kind: api.OpSymlink, Path: text, Other: name}
}
func rename(s string, name string) api.Op {
	return api.Op{Kind: api.OpRename, Path: s, Other: name}
}
func read(h int, at int, n int) api.Op {
	return api.Op{Kind: api.OpRead, H: h, At: at, N: n}
}
func write(h int, at int, s string) api.Op {
	return api.Op{Kind: api.OpWrite, H: h, At: at, Data: []byte(s)}
}
func truncate(h int, n int) api.Op {
	return api.Op{Kind: api.OpTruncate, H: h, N: n}
}

var usage = api.Op{Kind: api.OpUsage}

// tells asks for one Op, and for just that answer.
func (a asked) tells(op api.Op, want api.Result) {
	a.Helper()
	if r := a.m.Do(op); !model.Same(r, want) {
		a.Errorf("%v tells %v, not %v", op, r, want)
	}
}

// does asks for Ops that tell nothing, one behind the other.
func (a asked) does(l ...api.Op) {
	a.Helper()
	for _, op := range l {
		a.tells(op, api.Result{})
	}
}

// fails asks for Ops that tell that error, and nothing else.
func (a asked) fails(e api.Errno, l ...api.Op) {
	a.Helper()
	for _, op := range l {
		a.tells(op, api.Result{E: e})
	}
}

// has asks what is told of a path, not through a link at its end.
func (a asked) has(s string, kind int, size int, links int, blocks int) {
	a.Helper()
	a.tells(lstat(s), api.Result{Stat: api.Stat{Kind: kind, Size: size, Links: links, Blocks: blocks}})
}

// uses asks for how many inodes, and blocks, are used.
func (a asked) uses(n int, blocks int) {
	a.Helper()
	if r := a.m.Do(usage); r.Stat.N != n || r.Stat.Blocks != blocks {
		a.Errorf("%d inodes and %d blocks are used, not %d and %d", r.Stat.N, r.Stat.Blocks, n, blocks)
	}
}

func TestNew(t *testing.T) {
	for _, c := range []struct{ room, nodes, blocks, inodes int }{
		{0, 1, 0, 1}, {1, 2, 1, 2}, {-1, 0, 0, 1}, {math.MinInt, math.MinInt, 0, 1}, {4095, 255, 4095, 255}, {4096, 256, 4096, 256}, {4097, 257, 4096, 256}, {math.MaxInt, math.MaxInt, 4096, 256},
	} {
		a := ask(t, c.room, c.nodes)
		a.tells(usage, api.Result{Stat: api.Stat{N: 1, Size: c.blocks, Links: c.inodes}})
		a.has("/", api.Dir, 0, 1, 0)
		a.does(list("/"))
		for h := range 8 {
			a.fails(api.ErrHandle, closing(h), read(h, 0, 1), write(h, 0, "a"), truncate(h, 0))
		}
	}
}

// The example of the chapter.
func TestExample(t *testing.T) {
	a := ask(t, 10, 10)
	a.does(create("/a"), open("/a"), write(0, 1000, "abc"))
	a.has("/a", api.File, 1003, 1, 1)
	a.tells(read(0, 998, 10), api.Result{Data: []byte("\x00\x00abc")})
}

// No other kind there is.
func TestKinds(t *testing.T) {
	a := ask(t, 10, 10)
	for _, kind := range []int{math.MinInt, -1, 0, 17, 18, 255, 256, 1 << 32, 1<<32 + 1, math.MaxInt} {
		a.fails(api.ErrArg, api.Op{Kind: kind}, api.Op{Kind: kind, Path: "/a", Other: "/b", Data: []byte("a")})
	}
	a.uses(1, 0)
}

func TestNil(t *testing.T) {
	var m *model.Model
	for kind := -1; kind < 18; kind++ {
		asked{t, m}.fails(api.ErrNil, api.Op{Kind: kind, Path: "/"})
	}
	m.Restart()
	if m.Copy() != nil {
		t.Error("of nothing there is a copy")
	}
}

// One that New did not make has nothing, and nothing can be laid in it.
func TestNoughts(t *testing.T) {
	a := asked{t, new(model.Model)}
	a.does(usage)
	for kind := 1; kind < 16; kind++ {
		if r := a.m.Do(api.Op{Kind: kind, Path: "/a", Other: "/b", Data: []byte("a")}); r.E == api.OK || !model.Same(r, api.Result{E: r.E}) {
			t.Errorf("an Op of kind %d tells %v", kind, r)
		}
	}
	a.fails(api.ErrNone, list("/"), stat("/"), open("/"))
	a.m.Restart()
	a.m.Copy().Restart()
	a.uses(0, 0)
}
