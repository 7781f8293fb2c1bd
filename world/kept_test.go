package world

import "testing"

// Lies that were told, or never will be, are not kept.
func TestLiesThatAreNotKept(t *testing.T) {
	w := New(1)
	w.Lie(-1, []byte("never"))
	w.Lie(0, []byte("first"))
	w.Lie(0, []byte("in place of it"))
	w.Lie(1, nil)
	w.Lie(2, []byte("still to come"))
	if len(w.lies) != 3 {
		t.Errorf("of lies to come there are %d", len(w.lies))
	}
	w.Read(0, 0)
	w.Look(0)
	w.Lie(1, []byte("late"))
	if len(w.lies) != 1 || string(w.lies[2]) != "still to come" || w.reads.Load() != 2 {
		t.Errorf("of lies there are %d, behind %d reads", len(w.lies), w.reads.Load())
	}
}

// Of each kind there is just what it has, whatever is handed in beside.
func TestTraced(t *testing.T) {
	b := []byte("b")
	for kind, want := range []struct{ kind, at, slot, bytes int }{{}, {1, 7, 1, 1}, {2, 7, 1, 1}, {3, 7, 0, 1}, {4, 7, 0, 1}, {5, 0, 0, 0}, {}} {
		x := traced(kind, 7, 1, b)
		if x.Kind != want.kind || x.At != want.at || x.Slot != want.slot || len(x.Bytes) != want.bytes {
			t.Errorf("of kind %d there is %+v", kind, x)
		}
	}
}

// What is laid is counted, and nothing behind it is touched.
func TestLay(t *testing.T) {
	for n := range 6 {
		p, kept := armed(n), []byte("abcdef")
		laid := p.lay(kept, []byte("ABCD"))
		if want := min(n, 4); laid != want || string(kept) != "ABCD"[:want]+"abcdef"[want:] || p.lost != (n < 4) || p.left != max(n-4, 0) {
			t.Errorf("with power for %d bytes %d are laid: %q, and %+v is left", n, laid, kept, p)
		}
	}
	var endless power
	if laid := endless.lay(make([]byte, 9), make([]byte, 9)); laid != 9 || endless != (power{}) {
		t.Errorf("without an end %d bytes of 9 are laid", laid)
	}
}
