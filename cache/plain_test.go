package cache_test

import (
	"bytes"
	"fmt"
	"math/rand"
	"reflect"
	"slices"
	"testing"

	"sacristan/api"
	"sacristan/cache"
	"sacristan/memory"
	"sacristan/world"
)

// item is what a plain cache holds of a block.
type item struct {
	at    int
	body  []byte
	dirty bool
}

// plain is a cache as the chapter tells of it: a list of what is held, from the oldest on.
type plain struct {
	m    *memory.Memory
	room int
	l    []item
}

// find is where a block stands; -1, if it is not held.
func (p *plain) find(at int) int {
	return slices.IndexFunc(p.l, func(x item) bool { return x.at == at })
}

func (p *plain) make() api.Errno {
	for len(p.l) >= p.room {
		if p.l[0].dirty {
			if e := p.m.Write(p.l[0].at, p.l[0].body); e != api.OK {
				return e
			}
		}
		p.l = p.l[1:]
	}
	return api.OK
}

func (p *plain) get(at int) ([]byte, api.Errno) {
	i := p.find(at)
	if i >= 0 {
		x := p.l[i]
		p.l = append(slices.Concat(p.l[:i], p.l[i+1:]), x)
		return x.body, api.OK
	}
	if at < 0 || at >= p.m.Blocks() {
		return nil, api.ErrArg
	}
	if e := p.make(); e != api.OK {
		return nil, e
	}
	b, e := p.m.Read(at)
	if e != api.OK {
		return nil, e
	}
	p.l = append(p.l, item{at: at, body: b})
	return b, api.OK
}

func (p *plain) put(at int, body []byte) api.Errno {
	if at < 0 || at >= p.m.Blocks() || len(body) > 256 {
		return api.ErrArg
	}
	i := p.find(at)
	if i < 0 {
		if e := p.make(); e != api.OK {
			return e
		}
	} else {
		p.l = slices.Concat(p.l[:i], p.l[i+1:])
	}
	p.l = append(p.l, item{at, append(slices.Clone(body), make([]byte, 256-len(body))...), true})
	return api.OK
}

func (p *plain) flush() api.Errno {
	for at := range p.m.Blocks() {
		i := p.find(at)
		if i < 0 || !p.l[i].dirty {
			continue
		}
		if e := p.m.Write(at, p.l[i].body); e != api.OK {
			return e
		}
		p.l[i].dirty = false
	}
	return api.OK
}

func (p *plain) sync() api.Errno {
	if e := p.flush(); e != api.OK {
		return e
	}
	return p.m.Sync()
}

func (p *plain) held() (held []int, dirty []int) {
	for _, x := range p.l {
		held = append(held, x.at)
		if x.dirty {
			dirty = append(dirty, x.at)
		}
	}
	slices.Sort(dirty)
	return held, dirty
}

// pair is a cache, and one that is as it has to be, of two worlds that were the same when they began.
type pair struct {
	w, v *world.World
	m    *memory.Memory
	c    *cache.Cache
	p    *plain
}

// mount mounts both worlds, for caches with that room; where that is refused, those that were mounted go on.
func (x *pair) mount(t *testing.T, room int) {
	t.Helper()
	m, e := memory.Mount(x.w, master)
	n, f := memory.Mount(x.v, master)
	if e != f {
		t.Fatalf("Mount tells %d, and %d", e, f)
	}
	if e == api.OK {
		x.m, x.c, x.p = m, cache.New(m, room), &plain{m: n, room: room}
	}
}

// fault does the same to both worlds, and to both memories.
func (x *pair) fault(r *rand.Rand) {
	switch n := r.Intn(20); {
	case n == 0:
		power := r.Intn(3000)
		x.w.Arm(power)
		x.v.Arm(power)
	case n == 1:
		at, b := reads(x.w)+r.Intn(4), make([]byte, 272)[:r.Intn(2)*272]
		x.w.Lie(at, b)
		x.v.Lie(at, b)
	default:
		most := r.Intn(30)
		if r.Intn(2) > 0 {
			most = 1 << 20
		}
		x.m.Limit(most)
		x.p.m.Limit(most)
	}
}

// step does one thing of r to both, and tells what differs.
func (x *pair) step(r *rand.Rand) string {
	at := r.Intn(x.w.Blocks())
	var b, c []byte
	var e, f api.Errno
	switch n := r.Intn(60); {
	case n == 0:
		at = []int{-1, x.w.Blocks(), 1 << 40}[r.Intn(3)]
		fallthrough
	case n < 30:
		b, e = x.c.Get(at)
		c, f = x.p.get(at)
	case n < 57:
		body := make([]byte, []int{r.Intn(257), 256, 0, r.Intn(260)}[r.Intn(4)])
		r.Read(body)
		e, f = x.c.Put(at, body), x.p.put(at, body)
	case n < 59:
		e, f = x.c.Flush(), x.p.flush()
	default:
		e, f = x.c.Sync(), x.p.sync()
	}
	held, dirty := x.p.held()
	switch {
	case e != f || !bytes.Equal(b, c):
		return fmt.Sprintf("tells %x, %d, not %x, %d", b, e, c, f)
	case !slices.Equal(x.c.Held(), held) || !slices.Equal(x.c.Dirty(), dirty):
		return fmt.Sprint("holds ", x.c.Held(), x.c.Dirty(), ", not ", held, dirty)
	case x.c.Blocks() != x.p.m.Blocks() || x.m.Number() != x.p.m.Number() || x.m.Poisoned() != x.p.m.Poisoned():
		return "its memory is another one"
	}
	return ""
}

// A cache tells, holds and does to its world what a plain one does, whatever comes, and whatever fails.
func TestPlain(t *testing.T) {
	for seed := range int64(60) {
		r := rand.New(rand.NewSource(seed))
		blocks := []int{1, 2, 5, 20, 40}[r.Intn(5)]
		x := &pair{}
		x.w, _ = fresh(t, blocks)
		x.v = x.w.Copy()
		x.mount(t, 1+r.Intn(blocks+2))
		for i := range 250 {
			if seed%2 > 0 && r.Intn(12) == 0 {
				x.fault(r)
			}
			if s := x.step(r); s != "" {
				t.Fatalf("seed %d, step %d: it %s", seed, i, s)
			}
			if x.m.Poisoned() && r.Intn(20) == 0 {
				x.w.Restart()
				x.v.Restart()
				x.mount(t, 1+r.Intn(blocks+2))
			}
		}
		if !reflect.DeepEqual(x.w.Trace(), x.v.Trace()) {
			t.Fatalf("seed %d: what was done to its world is not the same", seed)
		}
	}
}
