package memory_test

import (
	"bytes"
	"math/rand"
	"slices"
	"testing"

	"sacristan/api"
	"sacristan/block"
	"sacristan/memory"
	"sacristan/world"
)

// told is what an epoch tells: of each Read, and in the end.
type told struct {
	read [][]byte
	e    api.Errno
}

// epoch mounts w, reads and writes blocks of two partitions, and ends with a Sync; it is over with the first error.
func epoch(w *world.World) (*memory.Memory, told) {
	m, e := memory.Mount(w, master)
	x := told{e: e}
	for i, at := range []int{0, 5, 5, 0, 17, 5, 1, 0} {
		if x.e != api.OK {
			return m, x
		}
		if i%3 == 1 {
			x.e = m.Write(at, []byte{byte(i), byte(at)})
			continue
		}
		var b []byte
		b, x.e = m.Read(at)
		x.read = append(x.read, b)
	}
	if x.e == api.OK {
		x.e = m.Sync()
	}
	return m, x
}

// beginning is a world of 18 blocks, with something certified, and something older behind that.
func beginning(t *testing.T) *world.World {
	t.Helper()
	w := formatted(t, 18)
	m := mounted(t, w)
	for n := range 3 {
		for at := range 18 {
			write(t, m, at, string([]byte{byte(at), byte(n), 1}))
		}
		synced(t, m)
	}
	return w
}

// falls asks that what was told, where the world lied, was right if it is certified; else that all is refused from there
// on. It tells whether it is certified.
func falls(t *testing.T, w *world.World, m *memory.Memory, x, right told, what ...any) bool {
	t.Helper()
	if x.e == api.OK {
		if !slices.EqualFunc(x.read, right.read, bytes.Equal) {
			t.Errorf("%v: what is told is wrong, and certified", what)
		}
		return true
	}
	if m == nil {
		if x.e != api.ErrForged {
			t.Errorf("%v: Mount tells %d", what, x.e)
		}
		return false
	}
	if x.e != api.ErrForged && x.e != api.ErrAudit {
		t.Errorf("%v: there is an error %d", what, x.e)
	}
	poisoned(t, m, w)
	return false
}

// Whichever read is told what another one was told, or what was ever written anywhere, or will be: no lie is certified.
func TestEveryLie(t *testing.T) {
	from := beginning(t)
	honest := from.Copy()
	_, right := epoch(honest)
	if right.e != api.OK {
		t.Fatalf("an honest epoch tells %d", right.e)
	}
	var truth [][]byte
	others := map[string]bool{}
	for _, x := range honest.Trace()[len(from.Trace()):] {
		if x.Kind == api.DidRead || x.Kind == api.DidLook {
			truth = append(truth, x.Bytes)
		}
	}
	for _, x := range honest.Trace() {
		others[string(x.Bytes)] = true
	}
	first := reads(from)
	for n, b := range truth {
		lies := [][]byte{nil, b[:len(b)-1], append(slices.Clone(b), 0), make([]byte, len(b)), b[16:]}
		for _, i := range []int{0, 7, 8, 11, 12, 15, 16, 17, 100, len(b) - 1} {
			c := slices.Clone(b)
			c[min(i, len(c)-1)] ^= 1
			lies = append(lies, c)
		}
		for c := range others {
			lies = append(lies, []byte(c))
		}
		for _, lie := range lies {
			w := from.Copy()
			w.Lie(first+n, lie)
			m, x := epoch(w)
			// The seal that is not the counter's may be anything.
			if falls(t, w, m, x, right, n, lie) && !bytes.Equal(lie, b) && n > 1 {
				t.Errorf("of read %d a lie is certified: %x", n, lie)
			}
		}
	}
}

// Lies that go together: what is told of a block is old, and told again and again, or is another block's, and that
// one's is told in its place.
func TestLiesThatGoTogether(t *testing.T) {
	from := beginning(t)
	honest := from.Copy()
	_, right := epoch(honest)
	first := reads(from)
	last := reads(honest)
	var ever [][]byte
	for _, x := range honest.Trace() {
		if x.Kind == api.DidRead || x.Kind == api.DidWrite {
			ever = append(ever, x.Bytes)
		}
	}
	r := rand.New(rand.NewSource(1))
	for seed := range 3000 {
		w := from.Copy()
		for range 1 + r.Intn(4) {
			b := ever[len(ever)-1-r.Intn(min(len(ever), 1<<r.Intn(12)))]
			for range 1 + r.Intn(3) {
				w.Lie(first+2+r.Intn(last-first-2), b)
			}
		}
		m, x := epoch(w)
		falls(t, w, m, x, right, seed)
	}
}

// A world that goes back to what was, whole, with all that it had then: its counter cannot go back, so it is refused.
func TestWorldThatGoesBack(t *testing.T) {
	w := formatted(t, 5)
	m := mounted(t, w)
	write(t, m, 0, "one")
	synced(t, m)
	back := w.Copy()
	write(t, m, 0, "two")
	synced(t, m)
	back.Set(w.Counter())
	refused(t, back, master, api.ErrForged, api.DidLook, api.DidLook)
	// Seals that are the right ones do not help it: its blocks are still the old ones.
	back.Seal(0, w.Copy().Look(0))
	back.Seal(1, w.Copy().Look(1))
	m = mounted(t, back)
	if _, e := m.Read(0); e != api.OK {
		t.Errorf("Read tells %d", e)
	}
	if e := m.Sync(); e != api.ErrAudit {
		t.Errorf("Sync tells %d", e)
	}
	poisoned(t, m, back)
}

// A block whose time is still to come is refused at once; one of any time that was is not, till the audit.
func TestTimes(t *testing.T) {
	key, _, _ := memory.Keys(master)
	for i, c := range []struct {
		epoch uint64
		seq   uint32
		want  api.Errno
	}{
		{6, 3, api.OK}, {6, 2, api.OK}, {6, 0, api.OK}, {6, 4, api.ErrForged}, {6, 1 << 20, api.ErrForged}, {6, 1<<32 - 1, api.ErrForged},
		{5, 3, api.OK}, {5, 4, api.OK}, {5, 1<<32 - 1, api.OK}, {0, 0, api.OK}, {0, 1<<32 - 1, api.OK},
		{7, 0, api.ErrForged}, {7, 1, api.ErrForged}, {1<<32 + 1, 1, api.ErrForged}, {1<<64 - 1, 0, api.ErrForged}, {1<<64 - 1, 1<<32 - 1, api.ErrForged},
	} {
		w := formatted(t, 2)
		m := mounted(t, w)
		for range 3 {
			synced(t, m)
		}
		for range 3 {
			write(t, m, 0, "abc")
		}
		lie, _ := block.Hide(key, c.epoch, c.seq, []byte("lie"))
		w.Lie(reads(w), lie)
		b, e := m.Read(0)
		if e != c.want || e == api.OK && !bytes.Equal(b, padded("lie")) || e != api.OK && len(b) != 0 || m.Poisoned() != (e != api.OK) {
			t.Errorf("%d: Read tells %v, %d", i, b, e)
		}
		if e != api.OK {
			poisoned(t, m, w)
		} else if e := m.Sync(); e != api.ErrAudit {
			t.Errorf("%d: Sync tells %d", i, e)
		}
	}
}

// What is no block, as it is kept, is refused at once, of reads and of writes.
func TestWhatIsNoBlock(t *testing.T) {
	whole := make([]byte, 272)
	for _, lie := range [][]byte{nil, {}, {0}, whole[:16], whole[:256], whole[:271], make([]byte, 273), make([]byte, 544), append(make([]byte, 12), bytes.Repeat([]byte{1}, 260)...), append(make([]byte, 15), bytes.Repeat([]byte{1}, 257)...)} {
		for i, step := range []func(m *memory.Memory) api.Errno{
			func(m *memory.Memory) api.Errno { _, e := m.Read(1); return e },
			func(m *memory.Memory) api.Errno { return m.Write(1, []byte("a")) },
		} {
			w := formatted(t, 2)
			m := mounted(t, w)
			w.Lie(reads(w), lie)
			was := len(w.Trace())
			if e := step(m); e != api.ErrForged {
				t.Errorf("%d, where %d bytes are told, tells %d", i, len(lie), e)
			}
			done(t, w, was, api.DidRead)
			poisoned(t, m, w)
		}
	}
}

// The first partition whose sums are not the same ends a Sync: nothing is certified, nor read behind it.
func TestAuditThatFails(t *testing.T) {
	for lied, read := range map[int]int{2: 16, 15: 16, 16: 32, 31: 32, 32: 40, 39: 40} {
		w := formatted(t, 40)
		m := mounted(t, w)
		for _, at := range []int{33, 17, 2} {
			write(t, m, at, "abc")
		}
		before := w.Copy()
		was := len(w.Trace())
		w.Lie(reads(w)+lied, make([]byte, 272))
		if e := m.Sync(); e != api.ErrAudit || m.Number() != 3 {
			t.Errorf("Sync, where read %d is a lie, tells %d", lied, e)
		}
		done(t, w, was, slices.Repeat([]int{api.DidRead}, read)...)
		poisoned(t, m, w)
		if w.Counter() != before.Counter() || !bytes.Equal(w.Look(0), before.Look(0)) || !bytes.Equal(w.Look(1), before.Look(1)) {
			t.Error("something is certified")
		}
	}
}

// A partition that was not accessed is not audited: what is told of it later is still held against what was certified.
func TestPartitionThatIsLeft(t *testing.T) {
	w := formatted(t, 33)
	m := mounted(t, w)
	write(t, m, 20, "abc")
	synced(t, m)
	old := w.Copy().Read(20, 0)
	for range 3 {
		write(t, m, 3, "abc")
		synced(t, m)
	}
	w.Lie(reads(w), old)
	if b, e := m.Read(20); e != api.OK || !bytes.Equal(b, padded("")) {
		t.Errorf("Read tells %v, %d", b, e)
	}
	if e := m.Sync(); e != api.ErrAudit {
		t.Errorf("Sync tells %d", e)
	}
}

// Of two memories of one world the one that is mounted later goes on, and is told nothing of the other one's; what that
// one writes behind it is found out.
func TestTwoMemoriesOfOneWorld(t *testing.T) {
	w := formatted(t, 3)
	m := mounted(t, w)
	write(t, m, 0, "certified")
	synced(t, m)
	write(t, m, 0, "tentative")
	n := mounted(t, w)
	holds(t, n, 0, "certified")
	write(t, n, 1, "one")
	synced(t, n)
	once(t, w)
	if e := m.Write(1, []byte("other")); e != api.OK {
		t.Errorf("Write tells %d", e)
	}
	if _, e := n.Read(1); e != api.OK {
		t.Errorf("Read tells %d", e)
	}
	if e := n.Sync(); e != api.ErrAudit {
		t.Errorf("Sync tells %d", e)
	}
}

// shape is all that the world sees of what is done, but for what is hidden: of bytes their heads, and how many they are.
func shape(w *world.World) []api.Trace {
	l := w.Trace()
	for i, x := range l {
		head := x.Bytes[:min(16, len(x.Bytes))]
		l[i].Bytes = slices.Concat(head, []byte{byte(len(x.Bytes)), byte(len(x.Bytes) >> 8)})
	}
	return l
}

// Whether blocks are read or written, and what with: the world sees the same, but for what is hidden.
func TestHidden(t *testing.T) {
	run := func(each func(m *memory.Memory, n, at int) api.Errno) *world.World {
		w := formatted(t, 20)
		m := mounted(t, w)
		for n, at := range []int{3, 3, 3, 19, 0, 3, 19, 0, 1, 3} {
			if e := each(m, n, at); e != api.OK {
				t.Fatalf("access %d tells %d", n, e)
			}
			if n%4 == 3 {
				synced(t, m)
			}
		}
		return w
	}
	text := []byte("nobody else may see this text")
	read := run(func(m *memory.Memory, n, at int) api.Errno { _, e := m.Read(at); return e })
	noughts := run(func(m *memory.Memory, n, at int) api.Errno { return m.Write(at, nil) })
	full := run(func(m *memory.Memory, n, at int) api.Errno { return m.Write(at, bytes.Repeat([]byte{255}, 256)) })
	mixed := run(func(m *memory.Memory, n, at int) api.Errno {
		if n%2 == 0 {
			return m.Write(at, text)
		}
		_, e := m.Read(at)
		return e
	})
	for i, w := range []*world.World{noughts, full, mixed} {
		if !sameTrace(shape(w), shape(read)) {
			t.Errorf("%d: the world sees something else", i)
		}
		if sameTrace(w.Trace(), read.Trace()) != (i == 0) {
			t.Errorf("%d: what is hidden is the same", i)
		}
	}
	seen := map[string]bool{}
	for _, x := range mixed.Trace() {
		if bytes.Contains(x.Bytes, text[:8]) || x.Kind == api.DidWrite && seen[string(x.Bytes[16:])] {
			t.Errorf("a text is seen, or two blocks are hidden alike: %q", x.Bytes)
		}
		if x.Kind == api.DidWrite {
			seen[string(x.Bytes[16:])] = true
		}
	}
	once(t, mixed)
}
