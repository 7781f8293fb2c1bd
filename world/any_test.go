package world_test

import (
	"bytes"
	"maps"
	"math"
	"math/rand"
	"slices"
	"testing"

	"sacristan/api"
	"sacristan/world"
)

// plain is a world as the chapter tells of it, without regard to how long it takes: what is written is not torn byte by
// byte, but cut where power ends.
type plain struct {
	slots   [][2][]byte
	seals   [2][]byte
	counter uint64
	power   int // -1, if it is not armed
	dead    bool
	reads   int
	lies    map[int][]byte
	trace   []api.Trace
}

func newPlain(blocks int) *plain {
	p := &plain{power: -1, lies: map[int][]byte{}}
	for range blocks {
		p.slots = append(p.slots, [2][]byte{padded(nil), padded(nil)})
	}
	return p
}

// copied has lists of its own, of bytes that plain never changes.
func (p *plain) copied() *plain {
	other := *p
	other.slots, other.lies, other.trace = slices.Clone(p.slots), maps.Clone(p.lies), slices.Clone(p.trace)
	return &other
}

// spend takes as much of n as there is power for.
func (p *plain) spend(n int) int {
	switch {
	case p.power < 0:
		return n
	case p.power < n:
		had := p.power
		p.power, p.dead = 0, true
		return had
	}
	p.power -= n
	return n
}

func (p *plain) has(at, slot int) bool {
	return !p.dead && at >= 0 && at < len(p.slots) && (slot == 0 || slot == 1)
}

func (p *plain) hasSeal(i int) bool { return !p.dead && (i == 0 || i == 1) }

func (p *plain) tell(kind, at, slot int, kept []byte) []byte {
	if lie, ok := p.lies[p.reads]; ok {
		kept = lie
	}
	p.reads++
	p.trace = append(p.trace, api.Trace{Kind: kind, At: at, Slot: slot, Bytes: kept})
	return kept
}

func (p *plain) read(at, slot int) []byte {
	if !p.has(at, slot) {
		return nil
	}
	return p.tell(api.DidRead, at, slot, p.slots[at][slot])
}

func (p *plain) look(i int) []byte {
	if !p.hasSeal(i) {
		return nil
	}
	return p.tell(api.DidLook, i, 0, p.seals[i])
}

func (p *plain) write(at, slot int, b []byte) bool {
	if !p.has(at, slot) {
		return false
	}
	p.trace = append(p.trace, api.Trace{Kind: api.DidWrite, At: at, Slot: slot, Bytes: b})
	n := p.spend(wide)
	p.slots[at][slot] = slices.Concat(padded(b[:min(len(b), wide)])[:n], p.slots[at][slot][n:])
	return !p.dead
}

func (p *plain) seal(i int, b []byte) bool {
	if !p.hasSeal(i) {
		return false
	}
	p.trace = append(p.trace, api.Trace{Kind: api.DidSeal, At: i, Bytes: b})
	n := p.spend(len(b))
	if p.dead {
		b = slices.Concat(b[:n], p.seals[i][min(n, len(p.seals[i])):])
	}
	p.seals[i] = b
	return !p.dead
}

func (p *plain) bump() bool {
	if p.dead || p.counter == math.MaxUint64 || p.spend(1) == 0 {
		return false
	}
	p.counter++
	p.trace = append(p.trace, api.Trace{Kind: api.DidBump})
	return true
}

func (p *plain) told() uint64 {
	if p.dead {
		return 0
	}
	return p.counter
}

func (p *plain) arm(n int) {
	if !p.dead {
		p.power = min(max(n, 0), mostPower)
	}
}

// pair is a world, and one that is as it has to be.
type pair struct {
	w *world.World
	p *plain
}

// step does one thing of r to both, and tells whether both tell the same.
func (x pair) step(r *rand.Rand) bool {
	at, slot, i := r.Intn(len(x.p.slots)+2)-1, r.Intn(4)-1, r.Intn(4)-1
	b := make([]byte, r.Intn(400)*r.Intn(2)+r.Intn(4))
	r.Read(b)
	switch r.Intn(13) {
	case 0, 1:
		return bytes.Equal(x.w.Read(at, slot), x.p.read(at, slot))
	case 2, 3:
		return bytes.Equal(x.w.Look(i), x.p.look(i))
	case 4, 5:
		return x.w.Write(at, slot, b) == x.p.write(at, slot, b)
	case 6, 7:
		return x.w.Seal(i, b) == x.p.seal(i, b)
	case 8, 9:
		return x.w.Bump() == x.p.bump()
	case 10:
		n := r.Intn(1000) - 10
		x.w.Arm(n)
		x.p.arm(n)
	case 11:
		n := x.p.reads + r.Intn(6) - 1
		x.w.Lie(n, b)
		x.p.lies[n] = b
	case 12:
		x.set(r)
	}
	return true
}

// set sets the counter, one in four times close to the greatest, or restarts both.
func (x pair) set(r *rand.Rand) {
	if r.Intn(3) > 0 {
		x.w.Restart()
		x.p.power, x.p.dead = -1, false
		return
	}
	n := uint64(r.Intn(5))
	if r.Intn(4) == 0 {
		n = math.MaxUint64 - n
	}
	x.w.Set(n)
	x.p.counter = n
}

// same is whether all is the same of both that no read is needed for.
func (x pair) same() bool {
	return x.w.Blocks() == len(x.p.slots) && x.w.Dead() == x.p.dead && x.w.Counter() == x.p.told()
}

// whole is whether all is the same of copies of both, once they are restarted.
func (x pair) whole() bool {
	c := pair{x.w.Copy(), x.p.copied()}
	all := c.same() && same(c.w.Trace(), c.p.trace)
	c.w.Restart()
	c.p.power, c.p.dead = -1, false
	for range 2 {
		for at := range c.p.slots {
			for slot := range 2 {
				all = all && bytes.Equal(c.w.Read(at, slot), c.p.read(at, slot))
			}
		}
		for i := range 2 {
			all = all && bytes.Equal(c.w.Look(i), c.p.look(i))
		}
	}
	return all && c.same() && same(c.w.Trace(), c.p.trace)
}

// Whatever is done, in whatever order, a world tells what the chapter says; so does each copy of it, that goes its own way.
func TestAnyWorld(t *testing.T) {
	for seed := range 150 {
		r := rand.New(rand.NewSource(int64(seed)))
		blocks := r.Intn(5)
		l := []pair{{world.New(blocks), newPlain(blocks)}}
		for n := range 300 {
			x := l[r.Intn(len(l))]
			if !x.step(r) || !x.same() {
				t.Fatalf("of seed %d, step %d tells something else", seed, n)
			}
			if n%50 == 0 {
				l = append(l, pair{x.w.Copy(), x.p.copied()})
			}
		}
		for i, x := range l {
			if !x.whole() {
				t.Fatalf("of seed %d, world %d is another one", seed, i)
			}
		}
	}
}
