package memory_test

import (
	"bytes"
	"crypto/hmac"
	"crypto/sha256"
	"math"
	"slices"
	"sync"
	"testing"

	"sacristan/api"
	"sacristan/block"
	"sacristan/memory"
	"sacristan/seal"
	"sacristan/sum"
	"sacristan/world"
)

// master is that of most tests.
var master = []byte("master")

// derived is the first 32 bytes of what a master comes to for a label, as the library's own packages make it.
func derived(master []byte, label string) []byte {
	h := hmac.New(sha256.New, master)
	h.Write([]byte(label))
	h.Write([]byte{0, 0, 0, 1})
	return h.Sum(nil)[:map[string]int{"hide": 16, "sum": 32, "seal": 32}[label]]
}

// padded is text and noughts, a block in all.
func padded(text string) []byte { return append([]byte(text), make([]byte, 256-len(text))...) }

// formatted is a world of so many blocks that was formatted by master.
func formatted(t *testing.T, blocks int) *world.World {
	t.Helper()
	w := world.New(blocks)
	if e := memory.Format(w, master); e != api.OK {
		t.Fatalf("Format of %d blocks tells %d", blocks, e)
	}
	return w
}

// mounted is a memory of w that has to be there.
func mounted(t *testing.T, w *world.World) *memory.Memory {
	t.Helper()
	m, e := memory.Mount(w, master)
	if e != api.OK || m == nil {
		t.Fatalf("Mount tells %v, %d", m, e)
	}
	return m
}

// refused asks that w is not mounted, and that as much was done to it as it was told.
func refused(t *testing.T, w *world.World, master []byte, want api.Errno, kinds ...int) {
	t.Helper()
	was := len(w.Trace())
	m, e := memory.Mount(w, master)
	if m != nil || e != want {
		t.Errorf("Mount tells %v, %d, not %d", m, e, want)
	}
	done(t, w, was, kinds...)
}

// done asks that what was done to w behind the first few things was of such kinds.
func done(t *testing.T, w *world.World, was int, kinds ...int) {
	t.Helper()
	var got []int
	for _, x := range w.Trace()[was:] {
		got = append(got, x.Kind)
	}
	if !slices.Equal(got, kinds) {
		t.Errorf("what was done is %v, not %v", got, kinds)
	}
}

// write writes what has to be written.
func write(t *testing.T, m *memory.Memory, at int, text string) {
	t.Helper()
	if e := m.Write(at, []byte(text)); e != api.OK {
		t.Fatalf("Write of %d tells %d", at, e)
	}
}

// holds asks that a block has just text, and noughts.
func holds(t *testing.T, m *memory.Memory, at int, text string) {
	t.Helper()
	if b, e := m.Read(at); e != api.OK || !bytes.Equal(b, padded(text)) {
		t.Errorf("Read of %d tells %q, %d, not %q", at, bytes.TrimRight(b, "\x00"), e, text)
	}
}

// synced is a Sync that has to be done.
func synced(t *testing.T, m *memory.Memory) {
	t.Helper()
	if e := m.Sync(); e != api.OK {
		t.Fatalf("Sync tells %d", e)
	}
}

// poisoned asks that all is refused, and nothing done to w.
func poisoned(t *testing.T, m *memory.Memory, w *world.World) {
	t.Helper()
	was := len(w.Trace())
	blocks, n := m.Blocks(), m.Number()
	if !m.Poisoned() {
		t.Error("it is not poisoned")
	}
	// What may not be is refused as poisoned too: that is named first.
	for _, at := range []int{0, 1, -1, blocks, math.MaxInt} {
		if b, e := m.Read(at); e != api.ErrPoison || len(b) != 0 {
			t.Errorf("Read of %d tells %v, %d", at, b, e)
		}
		for _, body := range [][]byte{nil, []byte("a"), make([]byte, 257)} {
			if e := m.Write(at, body); e != api.ErrPoison {
				t.Errorf("Write of %d tells %d", at, e)
			}
		}
	}
	m.Limit(0)
	if _, e := m.Read(0); e != api.ErrPoison {
		t.Errorf("Read tells %d, where no more may be written", e)
	}
	if e := m.Sync(); e != api.ErrPoison {
		t.Errorf("Sync tells %d", e)
	}
	if !m.Poisoned() || m.Blocks() != blocks || m.Number() != n {
		t.Error("it is another one")
	}
	done(t, w, was)
}

// reads is how many reads there were of w, those of seals too.
func reads(w *world.World) int {
	n := 0
	for _, x := range w.Trace() {
		if x.Kind == api.DidRead || x.Kind == api.DidLook {
			n++
		}
	}
	return n
}

func TestKeys(t *testing.T) {
	for _, master := range [][]byte{nil, {}, []byte("master"), []byte("m"), make([]byte, 1000)} {
		a, b, c := memory.Keys(master)
		if !bytes.Equal(a[:], derived(master, "hide")) || !bytes.Equal(b, derived(master, "sum")) || !bytes.Equal(c, derived(master, "seal")) {
			t.Errorf("Keys(%q) is %x, %x, %x", master, a, b, c)
		}
	}
}

func TestKeysAreNew(t *testing.T) {
	own := []byte("master")
	_, b, c := memory.Keys(own)
	clear(b[:cap(b)])
	clear(c[:cap(c)])
	_, d, f := memory.Keys(own)
	if !bytes.Equal(d, derived(own, "sum")) || !bytes.Equal(f, derived(own, "seal")) || string(own) != "master" {
		t.Error("Keys are somebody else's")
	}
}

// All that Format does to a world, byte by byte.
func TestFormat(t *testing.T) {
	for _, blocks := range []int{1, 7, 8, 9, 15, 16, 17, 32, 33, 100, 4096} {
		w := world.New(blocks)
		w.Set(41)
		if e := memory.Format(w, master); e != api.OK || w.Counter() != 43 {
			t.Fatalf("Format of %d blocks tells %d, %d", blocks, e, w.Counter())
		}
		key, sums, seals := memory.Keys(master)
		x := api.Seal{Number: 43, Blocks: blocks, Slots: make([]byte, (blocks+7)/8), Sums: make([]api.Digest, seal.Parts(blocks))}
		want := []api.Trace{{Kind: api.DidBump}}
		for at := range blocks {
			b, _ := block.Hide(key, 42, uint32(at), nil)
			want = append(want, api.Trace{Kind: api.DidWrite, At: at, Bytes: b})
			x.Sums[at/16] = sum.Add(x.Sums[at/16], sum.Of(sums, at, b))
		}
		b, _ := seal.Encode(seals, x)
		want = append(want, api.Trace{Kind: api.DidSeal, At: 1, Bytes: b}, api.Trace{Kind: api.DidBump})
		if !sameTrace(w.Trace(), want) {
			t.Errorf("Format of %d blocks does something else", blocks)
		}
	}
}

func TestFormatOfNothing(t *testing.T) {
	dead := world.New(0)
	dead.Arm(0)
	dead.Bump()
	for _, w := range []*world.World{world.New(0), world.New(-5), new(world.World), dead} {
		if e := memory.Format(w, master); e != api.ErrArg || len(w.Trace()) != 0 || w.Counter() != 0 {
			t.Errorf("Format of no blocks tells %d, and does %v", e, w.Trace())
		}
	}
	if e := memory.Format(nil, nil); e != api.ErrNil {
		t.Errorf("Format of nil tells %d", e)
	}
}

// Whenever power is lost in Format, it says so; with all that it takes it does not.
func TestFormatWithoutPower(t *testing.T) {
	const all = 1 + 2*272 + 4 + 8 + 4 + 1 + 32 + 32 + 1
	for n := range all + 3 {
		w := world.New(2)
		w.Arm(n)
		want := api.ErrPower
		if n >= all {
			want = api.OK
		}
		if e := memory.Format(w, master); e != want || w.Dead() != (n < all) {
			t.Errorf("Format, with power for %d, tells %d", n, e)
		}
	}
	w := world.New(2)
	w.Arm(0)
	w.Bump()
	if e := memory.Format(w, master); e != api.ErrPower || len(w.Trace()) != 0 {
		t.Errorf("Format of a dead world tells %d", e)
	}
}

// A counter that cannot rise is told where it has to.
func TestFormatAtTheLastNumbers(t *testing.T) {
	for n, want := range map[uint64]struct {
		e     api.Errno
		kinds []int
	}{
		math.MaxUint64:     {api.ErrCounter, nil},
		math.MaxUint64 - 1: {api.ErrCounter, []int{api.DidBump, api.DidWrite, api.DidWrite}},
		math.MaxUint64 - 2: {api.OK, []int{api.DidBump, api.DidWrite, api.DidWrite, api.DidSeal, api.DidBump}},
	} {
		w := world.New(2)
		w.Set(n)
		if e := memory.Format(w, master); e != want.e {
			t.Errorf("Format at %d tells %d, not %d", n, e, want.e)
		}
		done(t, w, 0, want.kinds...)
	}
	w := world.New(2)
	w.Set(math.MaxUint64 - 1)
	w.Arm(300)
	if e := memory.Format(w, master); e != api.ErrPower {
		t.Errorf("Format at the last number but one, without power, tells %d", e)
	}
}

// A world that was formatted again has nothing of what it had, whatever that was.
func TestFormatAgain(t *testing.T) {
	w := formatted(t, 20)
	for i := range 4 {
		m := mounted(t, w)
		for at := range 20 {
			holds(t, m, at, "")
			write(t, m, at, "old")
		}
		for range i {
			synced(t, m)
		}
		if e := memory.Format(w, master); e != api.OK {
			t.Fatalf("Format tells %d", e)
		}
	}
}

// All that Mount does to a world.
func TestMount(t *testing.T) {
	w := formatted(t, 18)
	was := len(w.Trace())
	m := mounted(t, w)
	if m.Number() != 3 || w.Counter() != 3 || m.Blocks() != 18 || m.Poisoned() {
		t.Errorf("what is mounted is %d, %d, %v, and the counter %d", m.Number(), m.Blocks(), m.Poisoned(), w.Counter())
	}
	done(t, w, was, api.DidLook, api.DidLook, api.DidSeal, api.DidBump)
	l := w.Trace()[was:]
	if l[0].At != 0 || l[1].At != 1 || l[2].At != 1 {
		t.Errorf("seals that were looked at are %d, %d, the one that was written %d", l[0].At, l[1].At, l[2].At)
	}
	_, _, key := memory.Keys(master)
	x, _ := seal.Decode(key, l[0].Bytes)
	x.Number++
	if y, e := seal.Decode(key, l[2].Bytes); e != api.OK || !seal.Same(x, y) {
		t.Errorf("what is sealed is %v, not %v", y, x)
	}
	for n := uint64(4); n < 9; n++ {
		if m := mounted(t, w); m.Number() != n || w.Counter() != n {
			t.Errorf("what is mounted has the number %d, not %d", m.Number(), n)
		}
	}
}

// The first of what Mount may be refused for, in the order of the chapter.
func TestMountThatIsRefused(t *testing.T) {
	if m, e := memory.Mount(nil, master); m != nil || e != api.ErrNil {
		t.Errorf("Mount of nil tells %v, %d", m, e)
	}
	looks := []int{api.DidLook, api.DidLook}
	refused(t, world.New(3), master, api.ErrForged, looks...)
	refused(t, world.New(0), master, api.ErrForged, looks...)
	refused(t, new(world.World), nil, api.ErrForged, looks...)
	w := formatted(t, 3)
	for _, other := range [][]byte{nil, []byte("maste"), []byte("Master"), []byte("master\x01")} {
		refused(t, w, other, api.ErrForged, looks...)
	}
	for _, n := range []uint64{0, 3, 4, math.MaxUint64} {
		c := w.Copy()
		c.Set(n)
		refused(t, c, master, api.ErrForged, looks...)
	}
	w.Arm(0)
	w.Bump()
	refused(t, w, master, api.ErrPower)
	w.Restart()
	w.Arm(0)
	refused(t, w, master, api.ErrPower, api.DidLook, api.DidLook, api.DidSeal)
}

// A seal of as many blocks as another world has is refused, also where the counter would have to rise for it.
func TestMountOfAnotherWorldsSeal(t *testing.T) {
	w := formatted(t, 17)
	for _, blocks := range []int{1, 16, 18, 24, 32, 4096} {
		for _, n := range []uint64{1, 2} {
			other := world.New(blocks)
			other.Seal(0, w.Copy().Look(0))
			other.Set(n)
			refused(t, other, master, api.ErrForged, api.DidLook, api.DidLook)
		}
	}
	same := world.New(17)
	same.Seal(1, w.Copy().Look(0))
	same.Set(2)
	mounted(t, same)
}

// A world without blocks may have a seal, though Format makes none.
func TestMountOfNoBlocks(t *testing.T) {
	w := world.New(0)
	_, _, key := memory.Keys(master)
	b, _ := seal.Encode(key, api.Seal{})
	w.Seal(0, b)
	m := mounted(t, w)
	if _, e := m.Read(0); m.Blocks() != 0 || m.Number() != 1 || e != api.ErrArg {
		t.Errorf("a memory of no blocks tells %d, %d, %d", m.Blocks(), m.Number(), e)
	}
	synced(t, m)
}

// The last numbers that there are.
func TestMountAtTheLastNumbers(t *testing.T) {
	_, _, key := memory.Keys(master)
	at := func(number, counter uint64) *world.World {
		w := world.New(1)
		b, _ := seal.Encode(key, api.Seal{Number: number, Blocks: 1, Slots: []byte{0}, Sums: []api.Digest{{}}})
		w.Seal(0, b)
		w.Set(counter)
		return w
	}
	const most = math.MaxUint64
	refused(t, at(most, most), master, api.ErrCounter, api.DidLook, api.DidLook)
	refused(t, at(most, most-1), master, api.ErrCounter, api.DidLook, api.DidLook, api.DidBump)
	refused(t, at(most-1, most), master, api.ErrForged, api.DidLook, api.DidLook)
	refused(t, at(0, most), master, api.ErrForged, api.DidLook, api.DidLook)
	w := at(most, most-1)
	w.Arm(0)
	refused(t, w, master, api.ErrPower, api.DidLook, api.DidLook)
	w = at(most-1, most-2)
	m := mounted(t, w)
	if m.Number() != most || w.Counter() != most {
		t.Errorf("what is mounted has the number %d, the counter %d", m.Number(), w.Counter())
	}
	was := len(w.Trace())
	if e := m.Sync(); e != api.ErrCounter || m.Number() != most {
		t.Errorf("Sync at the last number tells %d", e)
	}
	done(t, w, was)
	poisoned(t, m, w)
}

// Whichever of both seals Mount looks at is a lie, it takes none that is not the counter's.
func TestMountOfLies(t *testing.T) {
	w := formatted(t, 3)
	m := mounted(t, w)
	old := w.Copy()
	synced(t, m)
	now, before := w.Copy().Look(0), w.Copy().Look(1)
	for i, c := range []struct {
		lies [2][]byte
		want api.Errno
	}{
		{[2][]byte{now, before}, api.OK},
		{[2][]byte{before, now}, api.OK},
		{[2][]byte{nil, now}, api.OK},
		{[2][]byte{now, nil}, api.OK},
		{[2][]byte{before, nil}, api.ErrForged},
		{[2][]byte{nil, before}, api.ErrForged},
		{[2][]byte{before, before}, api.ErrForged},
		{[2][]byte{old.Look(0), old.Look(1)}, api.ErrForged},
		{[2][]byte{now[1:], now[:len(now)-1]}, api.ErrForged},
		{[2][]byte{append(slices.Clone(now), 0), nil}, api.ErrForged},
	} {
		v := w.Copy()
		for j, b := range c.lies {
			v.Lie(reads(v)+j, b)
		}
		if m, e := memory.Mount(v, master); e != c.want || (m == nil) != (e != api.OK) {
			t.Errorf("%d: Mount tells %v, %d", i, m, e)
		}
	}
}

// What was written is read, padded, in an epoch and behind it, and by those that are mounted later.
func TestReadAndWrite(t *testing.T) {
	w := formatted(t, 40)
	m := mounted(t, w)
	for n := range 4 {
		for at := range 40 {
			text := string(bytes.Repeat([]byte{byte(at + n + 1)}, (at*7+n)%257))
			write(t, m, at, text)
			holds(t, m, at, text)
			holds(t, m, at, text)
		}
		synced(t, m)
		if n%2 == 1 {
			m = mounted(t, w)
		}
		for at := range 40 {
			holds(t, m, at, string(bytes.Repeat([]byte{byte(at + n + 1)}, (at*7+n)%257)))
		}
	}
}

// All that an access does to a world, whether it reads or writes: the first one of an epoch, and all others.
func TestAccess(t *testing.T) {
	w := formatted(t, 18)
	m := mounted(t, w)
	key, _, _ := memory.Keys(master)
	had := ""
	for i, c := range []struct {
		at         int
		text       string // what is written; nothing is, if it is "-"
		from, into int
		epoch      uint64
		seq        uint32
	}{
		{17, "abc", 0, 1, 3, 1},
		{17, "-", 1, 1, 3, 2},
		{17, "", 1, 1, 3, 3},
		{17, "-", 1, 1, 3, 4},
		{17, "x", 1, 1, 3, 5},
		{17, "sync", 1, 0, 4, 1},
		{17, "-", 0, 0, 4, 2},
		{17, "sync", 0, 1, 5, 1},
		{17, "mount", 0, 1, 6, 1},
	} {
		switch c.text {
		case "sync":
			synced(t, m)
		case "mount":
			m = mounted(t, w)
		}
		was := len(w.Trace())
		next := had
		if c.text == "-" {
			holds(t, m, c.at, had)
		} else {
			write(t, m, c.at, c.text)
			next = c.text
		}
		l := w.Trace()[was:]
		b, _ := block.Hide(key, c.epoch, c.seq, []byte(next))
		if len(l) != 2 || l[0].Kind != api.DidRead || l[0].At != c.at || l[0].Slot != c.from || l[1].Kind != api.DidWrite || l[1].At != c.at || l[1].Slot != c.into || !bytes.Equal(l[1].Bytes, b) {
			t.Errorf("%d: what was done is %v", i, l)
		}
		had = next
	}
}

// What may not be is refused, with nothing done, and the memory goes on.
func TestAccessThatMayNotBe(t *testing.T) {
	w := formatted(t, 18)
	m := mounted(t, w)
	write(t, m, 1, "one")
	was := len(w.Trace())
	for range 2 {
		for _, at := range []int{-1, -16, 18, 19, 31, 32, 4096, math.MinInt, math.MaxInt} {
			if b, e := m.Read(at); e != api.ErrArg || len(b) != 0 {
				t.Errorf("Read of %d tells %v, %d", at, b, e)
			}
			if e := m.Write(at, []byte("a")); e != api.ErrArg {
				t.Errorf("Write of %d tells %d", at, e)
			}
		}
		for _, n := range []int{257, 258, 272, 100000} {
			if e := m.Write(1, make([]byte, n)); e != api.ErrArg {
				t.Errorf("Write of %d bytes tells %d", n, e)
			}
		}
		// That it may not be is told ahead of that no more may be.
		m.Limit(0)
	}
	if e := m.Write(1, make([]byte, 256)); e != api.ErrEpoch {
		t.Errorf("Write of 256 bytes tells %d", e)
	}
	done(t, w, was)
	m.Limit(9)
	holds(t, m, 1, "one")
	synced(t, m)
}

// accesses is how many of most accesses m does, one behind the other, reads and writes by turns.
func accesses(t *testing.T, m *memory.Memory, most int) int {
	t.Helper()
	for n := range most {
		e := api.OK
		if n%2 == 0 {
			_, e = m.Read(n % m.Blocks())
		} else {
			e = m.Write(n%m.Blocks(), nil)
		}
		if e == api.ErrEpoch {
			return n
		} else if e != api.OK {
			t.Errorf("access %d tells %d", n, e)
		}
	}
	return most
}

// Each access counts, till the next epoch; the limit may rise and fall at any time, and is clipped.
func TestLimit(t *testing.T) {
	m := mounted(t, formatted(t, 3))
	for i, c := range []struct{ limit, most, want int }{
		{100, 60, 60}, {100, 60, 40}, {100, 1, 0}, {101, 5, 1}, {101, 5, 0}, {100, 5, 0}, {99, 5, 0}, {0, 5, 0}, {-1, 5, 0}, {math.MinInt, 5, 0}, {111, 50, 10}, {math.MaxInt, 50, 50}, {1<<20 + 1, 50, 50}, {1 << 32, 50, 50},
	} {
		m.Limit(c.limit)
		if n := accesses(t, m, c.most); n != c.want || m.Poisoned() {
			t.Errorf("%d: %d accesses may be, not %d", i, n, c.want)
		}
	}
}

// A limit stays, epoch by epoch; a memory that is mounted has its own.
func TestLimitOfManyEpochs(t *testing.T) {
	w := formatted(t, 3)
	m := mounted(t, w)
	m.Limit(7)
	for range 3 {
		was := len(w.Trace())
		if n := accesses(t, m, 100); n != 7 {
			t.Errorf("%d accesses of an epoch may be, not 7", n)
		}
		if b, e := m.Read(0); e != api.ErrEpoch || len(b) != 0 {
			t.Errorf("Read tells %v, %d", b, e)
		}
		if n := len(w.Trace()) - was; n != 14 {
			t.Errorf("%d things were done", n)
		}
		synced(t, m)
	}
	if n := accesses(t, mounted(t, w), 100); n != 100 {
		t.Errorf("of a new memory %d accesses may be", n)
	}
}

// Where nothing may be accessed a Sync is done still.
func TestNoLimit(t *testing.T) {
	m := mounted(t, formatted(t, 3))
	m.Limit(0)
	for range 2 {
		if n := accesses(t, m, 5); n != 0 {
			t.Errorf("%d accesses may be", n)
		}
		synced(t, m)
	}
}

// All that Sync does to a world: partitions without a block that is touched are left as they are.
func TestSync(t *testing.T) {
	w := formatted(t, 70)
	m := mounted(t, w)
	_, sums, key := memory.Keys(master)
	certified := func() api.Seal {
		x, e := seal.Decode(key, w.Copy().Look(int(w.Counter()%2)))
		if e != api.OK {
			t.Fatalf("what is certified tells %d", e)
		}
		return x
	}
	for _, l := range [][]int{{0}, {}, {69, 69, 69}, {15, 16}, {50, 3, 50, 49}, {64, 47, 20, 1}, {64}} {
		was, slots := certified(), make([]int, 70)
		for at := range slots {
			slots[at] = seal.Slot(was, at)
		}
		want := was
		for i, at := range l {
			if slots[at] == seal.Slot(was, at) {
				slots[at], want = 1-slots[at], seal.Flip(want, at)
			}
			if i%2 == 0 {
				write(t, m, at, "something")
			} else if _, e := m.Read(at); e != api.OK {
				t.Fatalf("Read tells %d", e)
			}
		}
		want.Number, want.Sums = was.Number+1, slices.Clone(want.Sums)
		from := len(w.Trace())
		synced(t, m)
		var wanted []api.Trace
		for p := range 5 {
			if !slices.ContainsFunc(l, func(at int) bool { return at/16 == p }) {
				continue
			}
			want.Sums[p] = api.Digest{}
			for at := p * 16; at < min(70, p*16+16); at++ {
				b := w.Copy().Read(at, slots[at])
				wanted = append(wanted, api.Trace{Kind: api.DidRead, At: at, Slot: slots[at], Bytes: b})
				want.Sums[p] = sum.Add(want.Sums[p], sum.Of(sums, at, b))
			}
		}
		b, _ := seal.Encode(key, want)
		wanted = append(wanted, api.Trace{Kind: api.DidSeal, At: int(want.Number % 2), Bytes: b}, api.Trace{Kind: api.DidBump})
		if !sameTrace(w.Trace()[from:], wanted) {
			t.Errorf("Sync, behind %v, does something else", l)
		}
		if now := certified(); !seal.Same(now, want) || m.Number() != want.Number || w.Counter() != want.Number {
			t.Errorf("behind %v what is certified is %v, not %v", l, now, want)
		}
	}
}

// A counter that does not rise as it should is no reason to stop, unless it cannot.
func TestSyncOfAnotherCounter(t *testing.T) {
	w := formatted(t, 2)
	m := mounted(t, w)
	w.Set(50)
	synced(t, m)
	if m.Number() != 4 || w.Counter() != 51 {
		t.Errorf("Sync certifies %d, and the counter is %d", m.Number(), w.Counter())
	}
	w.Set(math.MaxUint64)
	was := len(w.Trace())
	if e := m.Sync(); e != api.ErrCounter || m.Number() != 4 {
		t.Errorf("Sync, where the counter cannot rise, tells %d", e)
	}
	done(t, w, was, api.DidSeal)
	poisoned(t, m, w)
}

// Of a nil memory, and of one that nobody mounted.
func TestNoMemory(t *testing.T) {
	var m *memory.Memory
	m.Limit(5)
	for range 2 {
		b, e := m.Read(0)
		if len(b) != 0 || e != api.ErrNil || m.Write(0, nil) != api.ErrNil || m.Write(-1, make([]byte, 300)) != api.ErrNil || m.Sync() != api.ErrNil {
			t.Errorf("a nil memory tells %v, %d", b, e)
		}
		if m.Blocks() != 0 || m.Number() != 0 || m.Poisoned() {
			t.Error("a nil memory has something")
		}
	}
	m = new(memory.Memory)
	m.Limit(5)
	if b, e := m.Read(0); len(b) != 0 || e != api.ErrArg || m.Write(0, nil) != api.ErrArg || m.Blocks() != 0 || m.Number() != 0 || m.Poisoned() {
		t.Errorf("a memory of noughts tells %v, %d", b, e)
	}
	if e := m.Sync(); e == api.OK || !m.Poisoned() {
		t.Errorf("Sync of a memory of noughts tells %d", e)
	}
}

// What is handed in is neither changed nor kept, what comes out is nobody else's.
func TestNothingIsShared(t *testing.T) {
	w, own := world.New(4), append([]byte("master"), "room"...)[:6]
	if e := memory.Format(w, own); e != api.OK {
		t.Fatal(e)
	}
	m, _ := memory.Mount(w, own)
	if string(own[:10]) != "masterroom" {
		t.Error("the master is changed")
	}
	clear(own[:10])
	body := append([]byte("body"), "room"...)[:4]
	if e := m.Write(0, body); e != api.OK || string(body[:8]) != "bodyroom" {
		t.Errorf("Write tells %d, and leaves %q", e, body[:8])
	}
	clear(body[:8])
	for range 2 {
		b, _ := m.Read(0)
		c, _ := m.Read(0)
		clear(b[:cap(b)])
		if !bytes.Equal(c, padded("body")) {
			t.Error("what comes out is somebody else's")
		}
		holds(t, m, 0, "body")
	}
	synced(t, m)
	holds(t, m, 0, "body")
	if m := mounted(t, w); m.Number() != 5 {
		t.Errorf("what is mounted has the number %d", m.Number())
	}
}

// Memories of several worlds know nothing of one another.
func TestManyAtOneTime(t *testing.T) {
	w := formatted(t, 20)
	var all sync.WaitGroup
	for i := range 8 {
		v := w.Copy()
		all.Go(func() {
			m, e := memory.Mount(v, master)
			for n := range 40 {
				e = max(e, m.Write(n%20, []byte{byte(i), byte(n)}))
				b, f := m.Read(n % 20)
				if e != api.OK || f != api.OK || b[0] != byte(i) || b[1] != byte(n) {
					t.Errorf("others at one time make a difference: %d, %d", e, f)
				}
				if n%10 == 9 {
					e = m.Sync()
				}
			}
		})
	}
	all.Wait()
}

// The example of the chapter.
func TestExamples(t *testing.T) {
	w := formatted(t, 1)
	m := mounted(t, w)
	if m.Number() != 3 {
		t.Errorf("Number is %d", m.Number())
	}
	write(t, m, 0, "abc")
	holds(t, m, 0, "abc")
	synced(t, m)
	if m.Number() != 4 {
		t.Errorf("Number is %d", m.Number())
	}
}
