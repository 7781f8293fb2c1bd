package model_test

import (
	"fmt"
	"math"
	"math/rand"
	"strings"
	"testing"

	"sacristan/api"
	"sacristan/model"
)

// anyPath is a path of few names, that lead on, back, and nowhere.
func anyPath(r *rand.Rand) string {
	switch r.Intn(60) {
	case 0:
		return []string{"", "/", ".", "..", "//", "/..", "a/..", "\x00", "/a\x00", strings.Repeat("x", 28), strings.Repeat("/a", 101)}[r.Intn(11)]
	case 1:
		return strings.Repeat("a/", 1+r.Intn(4))
	}
	s := strings.Repeat("/", r.Intn(3))
	for n := r.Intn(2) * r.Intn(3); n >= 0; n-- {
		s += []string{"a", "b", "c", "d", "e", "f"}[r.Intn(6)]
		if n > 0 {
			s += []string{"/", "/", "//", "/../", "/./"}[r.Intn(5)]
		}
	}
	return s
}

// anyNumber is a place, or how many bytes, about the edges.
func anyNumber(r *rand.Rand) int {
	switch r.Intn(8) {
	case 0:
		return []int{-1, math.MinInt, math.MaxInt, api.MaxSize, api.MaxSize + 1, 1 << 32}[r.Intn(6)]
	case 1:
		return r.Intn(api.MaxSize)
	case 2:
		return api.Body * r.Intn(71)
	}
	return r.Intn(9 * api.Body)
}

// anyOp is an Op, most often of a kind that there is.
func anyOp(r *rand.Rand) api.Op {
	// What makes names is asked for more often than what takes them away.
	often := []int{api.OpCreate, api.OpLink, api.OpSymlink, api.OpMkdir, api.OpRename, api.OpOpen, api.OpOpen, api.OpWrite, api.OpWrite}
	op := api.Op{Kind: 1 + r.Intn(16), Path: anyPath(r), Other: anyPath(r), H: r.Intn(3), At: anyNumber(r), N: anyNumber(r)}
	switch r.Intn(40) {
	case 0:
		op.H = []int{-1, 3, 7, 8, 9, math.MinInt, math.MaxInt}[r.Intn(7)]
	case 1:
		op.Kind = []int{-1, 0, 17, 99, math.MinInt, math.MaxInt, 1 << 32}[r.Intn(7)]
	}
	if r.Intn(3) == 0 {
		op.Kind = often[r.Intn(len(often))]
	}
	switch op.Kind {
	case api.OpStat:
		op.N = []int{0, 1, 1, 2, -1}[r.Intn(5)]
	case api.OpOpen:
		if r.Intn(2) > 0 {
			op.Path = []string{"a", "b", "c", "d", "e", "f"}[r.Intn(6)]
		}
	case api.OpClose:
		op.H = r.Intn(16)
	case api.OpWrite:
		op.Data = make([]byte, []int{0, 1, r.Intn(40), r.Intn(700), r.Intn(3000)}[r.Intn(5)])
		r.Read(op.Data)
	}
	return op
}

// seen asks a model, and a plain one, for all that there is to see from a directory on.
func seen(t *testing.T, m *model.Model, p *plain, x *thing, at string) {
	t.Helper()
	ops := []api.Op{{Kind: api.OpStat, Path: at, N: 1}, {Kind: api.OpList, Path: at}, {Kind: api.OpReadlink, Path: at}}
	for _, op := range ops {
		if got, want := m.Do(op), p.do(op); !model.Same(got, want) {
			t.Fatalf("%v tells %v, not %v", op, got, want)
		}
	}
	for name, y := range x.names {
		seen(t, m, p, y, at+"/"+name)
	}
	if x.kind == api.File {
		c := m.Copy()
		c.Restart()
		c.Do(api.Op{Kind: api.OpOpen, Path: at})
		if r := c.Do(api.Op{Kind: api.OpRead, N: api.MaxSize}); r.E != api.OK || string(r.Data) != string(x.data) {
			t.Fatalf("%s has %x, not %x", at, r.Data, x.data)
		}
	}
}

// seenAll asks for the whole, and for what is open.
func seenAll(t *testing.T, m *model.Model, p *plain) {
	t.Helper()
	seen(t, m, p, p.top, "/")
	ops := []api.Op{{Kind: api.OpUsage}}
	for h := range 8 {
		ops = append(ops, api.Op{Kind: api.OpRead, H: h, N: api.MaxSize})
	}
	for _, op := range ops {
		if got, want := m.Do(op), p.do(op); !model.Same(got, want) {
			t.Fatalf("%v tells %v, not %v", op, got, want)
		}
	}
}

// steps asks a model, and a plain one, for any Ops, and notes what they told.
func steps(t *testing.T, r *rand.Rand, told map[[2]int]int) {
	room, nodes := r.Intn(40), 1+r.Intn(14)
	m, p := model.New(room, nodes), newPlain(room, nodes)
	for i := range 300 {
		op := anyOp(r)
		was := fmt.Sprint(op)
		got, want := m.Do(op), p.do(op)
		if !model.Same(got, want) {
			t.Fatalf("step %d: %v tells %v, not %v", i, op, got, want)
		}
		if fmt.Sprint(op) != was {
			t.Fatalf("step %d: %s is changed", i, was)
		}
		told[[2]int{op.Kind, int(got.E)}]++
		if r.Intn(100) == 0 {
			m.Restart()
			p.restart()
		}
		if got.E != api.OK && r.Intn(10) == 0 || r.Intn(50) == 0 {
			seenAll(t, m, p)
		}
	}
	seenAll(t, m, p)
}

// may is which errors an Op of each kind may tell, beside ErrBig of a directory that has all names that one may have,
// or of an inode that has.
var may = map[int][]api.Errno{
	api.OpMkdir:    {api.ErrName, api.ErrNone, api.ErrNotDir, api.ErrLoop, api.ErrExist, api.ErrNodes, api.ErrSpace},
	api.OpRmdir:    {api.ErrName, api.ErrNone, api.ErrNotDir, api.ErrLoop, api.ErrFilled},
	api.OpCreate:   {api.ErrName, api.ErrNone, api.ErrNotDir, api.ErrLoop, api.ErrExist, api.ErrNodes, api.ErrSpace},
	api.OpUnlink:   {api.ErrName, api.ErrNone, api.ErrNotDir, api.ErrLoop, api.ErrDir},
	api.OpLink:     {api.ErrName, api.ErrNone, api.ErrNotDir, api.ErrLoop, api.ErrDir, api.ErrExist, api.ErrSpace},
	api.OpSymlink:  {api.ErrName, api.ErrNone, api.ErrNotDir, api.ErrLoop, api.ErrExist, api.ErrNodes, api.ErrSpace},
	api.OpRename:   {api.ErrName, api.ErrNone, api.ErrNotDir, api.ErrLoop, api.ErrArg, api.ErrDir, api.ErrFilled, api.ErrSpace},
	api.OpList:     {api.ErrName, api.ErrNone, api.ErrNotDir, api.ErrLoop},
	api.OpStat:     {api.ErrName, api.ErrNone, api.ErrNotDir, api.ErrLoop},
	api.OpReadlink: {api.ErrName, api.ErrNone, api.ErrNotDir, api.ErrLoop, api.ErrArg},
	api.OpOpen:     {api.ErrName, api.ErrNone, api.ErrNotDir, api.ErrLoop, api.ErrDir, api.ErrHandle},
	api.OpClose:    {api.ErrHandle},
	api.OpRead:     {api.ErrHandle, api.ErrArg},
	api.OpWrite:    {api.ErrHandle, api.ErrArg, api.ErrBig, api.ErrSpace},
	api.OpTruncate: {api.ErrHandle, api.ErrArg, api.ErrBig},
	api.OpUsage:    {},
}

// A model tells what a plain one does, whatever it is asked; and what fails changes nothing.
func TestAsPlain(t *testing.T) {
	told := map[[2]int]int{}
	for seed := range int64(600) {
		steps(t, rand.New(rand.NewSource(seed)), told)
	}
	for kind, l := range may {
		for _, e := range append(l, api.OK) {
			if told[[2]int{kind, int(e)}] < 5 {
				t.Errorf("an Op of kind %d tells %d just %d times: that is not looked at", kind, e, told[[2]int{kind, int(e)}])
			}
			delete(told, [2]int{kind, int(e)})
		}
	}
	for x, n := range told {
		if x[1] != int(api.ErrArg) || may[x[0]] != nil {
			t.Errorf("an Op of kind %d tells %d, %d times", x[0], x[1], n)
		}
	}
}

// No bytes, and no numbers, make a model panic, or tell anything beside an error.
func TestAnyBytes(t *testing.T) {
	r := rand.New(rand.NewSource(16))
	text := func() string {
		b := make([]byte, r.Intn(300))
		for i := range b {
			b[i] = "ab./\x00\xff/"[r.Intn(7)]
		}
		return string(b)
	}
	number := func() int {
		return int(r.Uint64() >> r.Intn(64))
	}
	m, none := model.New(50, 20), new(model.Model)
	for range 30000 {
		op := api.Op{Kind: r.Intn(18), Path: text(), Other: text(), H: number(), At: number(), N: number(), Data: []byte(text())}
		if r.Intn(2) > 0 {
			op.H %= 9
		}
		x := m.Do(op)
		if x.E != api.OK && !model.Same(x, api.Result{E: x.E}) {
			t.Fatalf("%v tells %v", op, x)
		}
		none.Do(op)
	}
}
