package audit_test

import (
	"bytes"
	"slices"
	"testing"

	"sacristan/api"
	"sacristan/audit"
	"sacristan/memory"
	"sacristan/world"
)

var master = []byte("master")

// blocks of a world are those of two partitions; each epoch of these tests touches both.
const blocks = 18

// epoch reads and writes blocks of both partitions, and ends with a Sync; it is over with the first error.
func epoch(m *memory.Memory) api.Errno {
	for i, at := range []int{0, 17, 5, 0, 16, 17, 5} {
		var e api.Errno
		if i%3 == 1 {
			e = m.Write(at, []byte{byte(i), byte(at)})
		} else {
			_, e = m.Read(at)
		}
		if e != api.OK {
			return e
		}
	}
	return m.Sync()
}

// certified is a world of some epochs, all of which are, and a memory of it.
func certified(t *testing.T) (*world.World, *memory.Memory) {
	t.Helper()
	w := world.New(blocks)
	if e := memory.Format(w, master); e != api.OK {
		t.Fatalf("Format tells %d", e)
	}
	m, e := memory.Mount(w, master)
	if e != api.OK {
		t.Fatalf("Mount tells %d", e)
	}
	for range 3 {
		if e := epoch(m); e != api.OK {
			t.Fatalf("an epoch of an honest world tells %d", e)
		}
	}
	return w, m
}

// heaps are what was read in the epoch of row i, and what was written: there, and as it was certified by the row ahead of
// it, whose Sync read each block once more.
func heaps(rows [][]api.Trace, i int) (read, written []api.Item) {
	was := audit.Reads(rows[i-1])
	return audit.Reads(rows[i]), slices.Concat(was[len(was)-blocks:], audit.Writes(rows[i]))
}

// Of a world that is honest all is straight, each epoch's heaps are the same, and no place of a stream hides two blocks.
func TestHonestMemory(t *testing.T) {
	w, _ := certified(t)
	l := w.Trace()
	rows := audit.Epochs(l)
	if len(rows) != 7 || len(rows[6]) != 0 || len(rows[0]) != 1 {
		t.Fatalf("there are %d epochs", len(rows))
	}
	if n := audit.Straight(l); n != -1 {
		t.Errorf("the read %d is not straight", n)
	}
	_, summing, _ := memory.Keys(master)
	for i := 4; i < 6; i++ {
		read, written := heaps(rows, i)
		if !audit.Same(read, written) || len(audit.Minus(read, written)) != 0 || audit.Collision(summing, read, written) {
			t.Errorf("the heaps of epoch %d are not the same", i)
		}
	}
	nonces := audit.Nonces(l)
	if len(nonces) != blocks+3*7 {
		t.Errorf("%d blocks were written", len(nonces))
	}
	seen := map[api.Nonce]int{}
	for _, n := range nonces {
		if seen[n]++; seen[n] > 1 {
			t.Errorf("the head %x is there twice", n)
		}
	}
}

// What was told in an epoch whose Sync tells OK is right, or sums were broken; where it tells that something is wrong,
// the heaps tell who lied.
func TestLyingMemory(t *testing.T) {
	from, _ := certified(t)
	first := 0
	var ever [][]byte
	for _, x := range from.Trace() {
		if x.Kind == api.DidRead || x.Kind == api.DidLook {
			first++
		}
		if x.Kind == api.DidRead || x.Kind == api.DidWrite {
			ever = append(ever, x.Bytes)
		}
	}
	_, summing, _ := memory.Keys(master)
	caught, fine := 0, 0
	for n := range 7 + blocks {
		for _, lie := range append(ever[len(ever)-60:], make([]byte, 272), ever[0]) {
			w := from.Copy()
			// Behind the two seals that Mount looks at.
			w.Lie(first+2+n, lie)
			m, e := memory.Mount(w, master)
			if e != api.OK {
				t.Fatalf("Mount tells %d", e)
			}
			e = epoch(m)
			if e != api.OK && e != api.ErrAudit {
				t.Fatalf("of read %d a lie tells %d", n, e)
			}
			// Ahead of this epoch there is the row of Mount, which reads nothing; a Sync that fails ends none.
			rows := slices.DeleteFunc(audit.Epochs(w.Trace()), func(row []api.Trace) bool { return len(audit.Reads(row)) == 0 })
			read, written := heaps(rows, len(rows)-1)
			straight := audit.Straight(w.Trace()) == -1
			if e == api.OK {
				fine++
				if !straight || !audit.Same(read, written) || audit.Collision(summing, read, written) {
					t.Errorf("of read %d a lie is certified", n)
				}
				continue
			}
			caught++
			liar := func(x api.Item) bool { return bytes.Equal(x.Bytes, lie) }
			if straight || audit.Same(read, written) || !slices.ContainsFunc(audit.Minus(read, written), liar) {
				t.Errorf("of read %d a lie is not told", n)
			}
		}
	}
	if caught < 1000 || fine < 10 {
		t.Errorf("%d lies were caught, %d told what is right", caught, fine)
	}
}

// A write is traced whole, also where power was lost ahead of its end: the read of what is there then is not straight.
func TestTornWrite(t *testing.T) {
	w := world.New(1)
	w.Write(0, 0, bytes.Repeat([]byte{1}, 272))
	w.Arm(271)
	w.Write(0, 0, bytes.Repeat([]byte{2}, 272))
	w.Restart()
	w.Read(0, 1)
	w.Read(0, 0)
	l := w.Trace()
	if n := audit.Straight(l); n != 3 {
		t.Errorf("the read %d is not straight", n)
	}
	w.Write(0, 0, []byte("short"))
	w.Read(0, 0)
	if n := audit.Straight(w.Trace()[4:]); n != -1 {
		t.Errorf("the read %d is not straight", n)
	}
}
