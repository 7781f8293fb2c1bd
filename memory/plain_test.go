package memory_test

import (
	"bytes"
	"fmt"
	"math"
	"math/rand"
	"slices"
	"testing"

	"sacristan/api"
	"sacristan/block"
	"sacristan/memory"
	"sacristan/seal"
	"sacristan/sum"
	"sacristan/world"
)

// plain is a memory as the chapter tells of it, without regard to how long it takes: what was read, and what was
// written, is kept whole, and is added up when it is asked for.
type plain struct {
	w           *world.World
	hide        api.Key
	sums, seals []byte
	certified   api.Seal
	slots       []int
	touched     []bool
	read        []api.Item
	written     []api.Item
	seq, limit  int
	poisoned    bool
}

// plainKeys is a plain one that has its keys, and nothing else.
func plainKeys(w *world.World, master []byte) *plain {
	return &plain{w: w, hide: api.Key(derived(master, "hide")), sums: derived(master, "sum"), seals: derived(master, "seal"), limit: 1 << 20}
}

// unbumped is the error of a Bump, or a Seal, that told false.
func unbumped(w *world.World) api.Errno {
	if w.Dead() {
		return api.ErrPower
	}
	return api.ErrCounter
}

// certify seals x.
func (p *plain) certify(x api.Seal) api.Errno {
	b, e := seal.Encode(p.seals, x)
	if e != api.OK {
		panic("a plain memory seals what is not Right")
	}
	if !p.w.Seal(int(x.Number%2), b) || !p.w.Bump() {
		return unbumped(p.w)
	}
	return api.OK
}

func plainFormat(w *world.World, master []byte) api.Errno {
	if w == nil {
		return api.ErrNil
	}
	if w.Blocks() < 1 {
		return api.ErrArg
	}
	if !w.Bump() {
		return unbumped(w)
	}
	p, epoch := plainKeys(w, master), w.Counter()
	x := api.Seal{Number: epoch + 1, Blocks: w.Blocks(), Slots: make([]byte, (w.Blocks()+7)/8)}
	var kept []api.Item
	for at := range w.Blocks() {
		b, _ := block.Hide(p.hide, epoch, uint32(at), nil)
		if !w.Write(at, 0, b) {
			return api.ErrPower
		}
		kept = append(kept, api.Item{At: at, Bytes: b})
	}
	if epoch == math.MaxUint64 {
		return api.ErrCounter
	}
	for l := range slices.Chunk(kept, 16) {
		x.Sums = append(x.Sums, sum.All(p.sums, l...))
	}
	return p.certify(x)
}

func plainMount(w *world.World, master []byte) (*plain, api.Errno) {
	if w == nil {
		return nil, api.ErrNil
	}
	p := plainKeys(w, master)
	l := [][]byte{w.Look(0), w.Look(1)}
	if w.Dead() {
		return nil, api.ErrPower
	}
	x, e := seal.Choose(p.seals, w.Counter(), l...)
	if e != api.OK {
		return nil, e
	}
	if x.Blocks != w.Blocks() {
		return nil, api.ErrForged
	}
	if x.Number != w.Counter() && !w.Bump() {
		return nil, unbumped(w)
	}
	if x.Number == math.MaxUint64 {
		return nil, api.ErrCounter
	}
	x.Number++
	if e := p.certify(x); e != api.OK {
		return nil, e
	}
	p.begin(x)
	return p, api.OK
}

func (p *plain) begin(x api.Seal) {
	p.certified, p.seq, p.read, p.written = x, 0, nil, nil
	p.touched, p.slots = make([]bool, x.Blocks), make([]int, x.Blocks)
	for at := range p.slots {
		p.slots[at] = int(x.Slots[at/8]) >> (at % 8) % 2
	}
}

// access tells what was shown. Of a body that is nil it writes its own bytes.
func (p *plain) access(at int, body []byte) ([]byte, api.Errno) {
	switch {
	case p.poisoned:
		return nil, api.ErrPoison
	case at < 0 || at >= p.certified.Blocks || len(body) > 256:
		return nil, api.ErrArg
	case p.seq >= p.limit:
		return nil, api.ErrEpoch
	}
	p.poisoned = true
	b := p.w.Read(at, p.slots[at])
	if p.w.Dead() {
		return nil, api.ErrPower
	}
	shown, e := block.Show(p.hide, b)
	epoch, seq, _ := block.When(b)
	if e != api.OK || epoch > p.certified.Number || epoch == p.certified.Number && int(seq) > p.seq {
		return nil, api.ErrForged
	}
	p.read = append(p.read, api.Item{At: at, Bytes: b})
	p.seq++
	if body == nil {
		body = shown
	}
	if !p.touched[at] {
		p.touched[at], p.slots[at] = true, 1-p.slots[at]
	}
	b, _ = block.Hide(p.hide, p.certified.Number, uint32(p.seq), body)
	if !p.w.Write(at, p.slots[at], b) {
		return nil, api.ErrPower
	}
	p.written = append(p.written, api.Item{At: at, Bytes: b})
	p.poisoned = false
	return shown, api.OK
}

// of is those of l that are of a partition.
func of(l []api.Item, part int) []api.Item {
	return slices.DeleteFunc(slices.Clone(l), func(x api.Item) bool { return x.At/16 != part })
}

func (p *plain) sync() api.Errno {
	if p.poisoned {
		return api.ErrPoison
	}
	p.poisoned = true
	x := api.Seal{Number: p.certified.Number + 1, Blocks: p.certified.Blocks, Slots: make([]byte, len(p.certified.Slots)), Sums: slices.Clone(p.certified.Sums)}
	for part, was := range p.certified.Sums {
		first, last := part*16, min(part*16+16, x.Blocks)
		if !slices.Contains(p.touched[first:last], true) {
			continue
		}
		var left []api.Item
		for at := first; at < last; at++ {
			b := p.w.Read(at, p.slots[at])
			if p.w.Dead() {
				return api.ErrPower
			}
			left = append(left, api.Item{At: at, Bytes: b})
		}
		read := sum.Add(sum.All(p.sums, of(p.read, part)...), sum.All(p.sums, left...))
		if read != sum.Add(was, sum.All(p.sums, of(p.written, part)...)) {
			return api.ErrAudit
		}
		x.Sums[part] = sum.All(p.sums, left...)
	}
	for at, slot := range p.slots {
		x.Slots[at/8] |= byte(slot << (at % 8))
	}
	if p.certified.Number == math.MaxUint64 {
		return api.ErrCounter
	}
	if e := p.certify(x); e != api.OK {
		return e
	}
	p.poisoned = false
	p.begin(x)
	return api.OK
}

// pair is a memory, and one that is as it has to be, of two worlds that were the same when they began.
type pair struct {
	w, v *world.World
	m    *memory.Memory
	p    *plain
}

// both tells the same of both, or else says what differs.
func both[T any](same func(a, b T) bool, a T, e api.Errno, b T, f api.Errno) string {
	if e != f || !same(a, b) {
		return fmt.Sprintf("tells %v, %d, not %v, %d", a, e, b, f)
	}
	return ""
}

// mount mounts both by that master; where that is refused, those that were mounted go on.
func (x *pair) mount(master []byte) string {
	m, e := memory.Mount(x.w, master)
	p, f := plainMount(x.v, master)
	if e == api.OK && f == api.OK {
		x.m, x.p = m, p
	}
	return both(func(a, b bool) bool { return a == b }, m == nil, e, p == nil, f)
}

// lie has a read that is to come tell what some read, or write, had; or that, with a bit that is another one; or a piece
// of it; or a time that is still to come.
func (x *pair) lie(r *rand.Rand) {
	var kept [][]byte
	reads := 0
	for _, t := range x.w.Trace() {
		if t.Kind == api.DidRead || t.Kind == api.DidLook {
			reads++
		}
		if t.Kind != api.DidBump {
			kept = append(kept, t.Bytes)
		}
	}
	b := append([]byte{1}, kept[r.Intn(len(kept))]...)[1:]
	switch r.Intn(6) {
	case 0:
		if len(b) > 0 {
			b[r.Intn(len(b))] ^= 1 << r.Intn(8)
		}
	case 1:
		b = b[:r.Intn(len(b)+1)]
	case 2:
		b, _ = block.Hide(x.p.hide, x.p.certified.Number+uint64(r.Intn(3))-1, uint32(x.p.seq+r.Intn(3)-1), nil)
	}
	n := reads + r.Intn(4)
	x.w.Lie(n, b)
	x.v.Lie(n, b)
}

// step does one thing of r to both, and tells what differs.
func (x *pair) step(r *rand.Rand, faults bool) string {
	at := r.Intn(x.p.certified.Blocks)
	n := r.Intn(40)
	if !faults && n >= 32 {
		n = r.Intn(32)
	}
	switch {
	case n == 0:
		at = []int{-1, math.MinInt, math.MaxInt, x.p.certified.Blocks, x.p.certified.Blocks + 1}[r.Intn(5)]
		fallthrough
	case n < 12:
		a, e := x.m.Read(at)
		b, f := x.p.access(at, nil)
		return both(bytes.Equal, a, e, b, f)
	case n < 24:
		body := make([]byte, []int{r.Intn(257), 256, 0, r.Intn(300)}[r.Intn(4)])
		r.Read(body)
		_, f := x.p.access(at, slices.Clone(body))
		return both(bytes.Equal, nil, x.m.Write(at, body), nil, f)
	case n < 28:
		return both(bytes.Equal, nil, x.m.Sync(), nil, x.p.sync())
	case n < 30:
		most := r.Intn(30) - 3
		if r.Intn(3) > 0 {
			most += 1 << 20
		}
		x.m.Limit(most)
		x.p.limit = min(max(most, 0), 1<<20)
	case n < 32:
		return x.mount([]byte("master"))
	case n == 32:
		power := r.Intn(1500)
		x.w.Arm(power)
		x.v.Arm(power)
	case n < 36:
		x.w.Restart()
		x.v.Restart()
		return x.mount([]byte("master"))
	case n == 36:
		return both(bytes.Equal, nil, memory.Format(x.w, []byte("master")), nil, plainFormat(x.v, []byte("master")))
	case n == 37:
		return x.mount([]byte("mister"))
	default:
		x.lie(r)
	}
	return ""
}

// same tells what differs of both that is told at any time.
func (x *pair) same() string {
	switch {
	case x.m.Blocks() != x.p.certified.Blocks || x.m.Number() != x.p.certified.Number || x.m.Poisoned() != x.p.poisoned:
		return fmt.Sprint("is another one: ", x.m.Blocks(), x.m.Number(), x.m.Poisoned())
	case x.w.Dead() != x.v.Dead() || x.w.Counter() != x.v.Counter():
		return "its world is another one"
	}
	return ""
}

// newPair is a memory, and a plain one, of so many blocks, whose counters began at that number.
func newPair(t *testing.T, blocks int, counter uint64) *pair {
	t.Helper()
	x := &pair{w: world.New(blocks)}
	x.w.Set(counter)
	x.v = x.w.Copy()
	if e, f := memory.Format(x.w, []byte("master")), plainFormat(x.v, []byte("master")); e != f {
		t.Fatalf("Format of %d blocks tells %d, not %d", blocks, e, f)
	}
	if s := x.mount([]byte("master")); s != "" || x.m == nil {
		t.Fatalf("Mount of %d blocks %s", blocks, s)
	}
	return x
}

// Whatever is done, in whatever order, and whatever the world does: a memory tells what the chapter says, and does to
// its world what the chapter says.
func TestAnyMemory(t *testing.T) {
	fine, over := 0, 0
	for seed := range 240 {
		r := rand.New(rand.NewSource(int64(seed)))
		x := newPair(t, []int{1, 2, 5, 8, 9, 15, 16, 17, 32, 33, 40}[r.Intn(11)], uint64(r.Intn(3))*(math.MaxUint64/2-10))
		for n := range 150 {
			s := x.step(r, seed%4 > 0)
			if s == "" {
				s = x.same()
			}
			if s != "" {
				t.Fatalf("of seed %d, step %d %s", seed, n, s)
			}
			if x.p.poisoned {
				over++
			} else {
				fine++
			}
		}
		if !sameTrace(x.w.Trace(), x.v.Trace()) {
			t.Fatalf("of seed %d, another thing was done to the world", seed)
		}
	}
	if fine < 5000 || over < 1000 {
		t.Errorf("too little was tried: %d steps that left all fine, %d that did not", fine, over)
	}
}

// sameTrace is whether the same was done to two worlds.
func sameTrace(a, b []api.Trace) bool {
	return slices.EqualFunc(a, b, func(x, y api.Trace) bool {
		return x.Kind == y.Kind && x.At == y.At && x.Slot == y.Slot && bytes.Equal(x.Bytes, y.Bytes)
	})
}

// Close to the greatest number a memory ends where the chapter says.
func TestAnyMemoryAtTheLastNumbers(t *testing.T) {
	for seed := range 60 {
		r := rand.New(rand.NewSource(int64(seed)))
		x := newPair(t, 17, math.MaxUint64-3-uint64(r.Intn(6)))
		for n := range 60 {
			s := x.step(r, true)
			if s == "" {
				s = x.same()
			}
			if s != "" {
				t.Fatalf("of seed %d, step %d %s", seed, n, s)
			}
		}
		if !sameTrace(x.w.Trace(), x.v.Trace()) {
			t.Fatalf("of seed %d, another thing was done to the world", seed)
		}
	}
}
