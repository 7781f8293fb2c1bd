package memory_test

import (
	"bytes"
	"slices"
	"strconv"
	"testing"

	"sacristan/api"
	"sacristan/memory"
	"sacristan/world"
)

// state is what each block begins with.
type state []string

// stateOf is what all blocks of m have.
func stateOf(t *testing.T, m *memory.Memory) state {
	t.Helper()
	var all state
	for at := range m.Blocks() {
		b, e := m.Read(at)
		if e != api.OK {
			t.Fatalf("Read of %d tells %d", at, e)
		}
		all = append(all, string(bytes.TrimRight(b, "\x00")))
	}
	return all
}

// crashed is a world whose power was lost in steps, with power for n, and was there again behind that.
func crashed(t *testing.T, from *world.World, n int, steps func(w *world.World) api.Errno) (*world.World, api.Errno) {
	t.Helper()
	w := from.Copy()
	w.Arm(n)
	e := steps(w)
	if w.Dead() != (e != api.OK) || e != api.OK && e != api.ErrPower {
		t.Fatalf("with power for %d there is an error %d", n, e)
	}
	w.Restart()
	return w, e
}

// whole asks that w is mounted, has what is told, can be written and certified, and hides nothing twice.
func whole(t *testing.T, w *world.World, n int, wants ...state) {
	t.Helper()
	m := mounted(t, w)
	got := stateOf(t, m)
	if !slices.ContainsFunc(wants, func(s state) bool { return slices.Equal(s, got) }) {
		t.Errorf("with power for %d there is %q, not %q", n, got, wants)
	}
	write(t, m, 0, "behind it")
	synced(t, m)
	holds(t, mounted(t, w), 0, "behind it")
	once(t, w)
}

// once asks that no place of a stream hides two blocks: no head was written twice.
func once(t *testing.T, w *world.World) {
	t.Helper()
	seen := map[string]bool{}
	for _, x := range w.Trace() {
		if x.Kind != api.DidWrite {
			continue
		}
		head := string(x.Bytes[:16])
		if seen[head] {
			t.Fatalf("the head %x is there twice", head)
		}
		seen[head] = true
	}
}

// old is a world of three blocks with something certified in each, in an epoch that goes on behind one before it.
func old(t *testing.T) (*world.World, state) {
	t.Helper()
	w := formatted(t, 3)
	m := mounted(t, w)
	for range 2 {
		for at := range 3 {
			write(t, m, at, "old "+strconv.Itoa(at))
		}
		synced(t, m)
	}
	return w, state{"old 0", "old 1", "old 2"}
}

// Whenever power is lost in an epoch, there is what was certified last; or, once the seal is written, what was about to
// be. All that was told of blocks then was right.
func TestCrashInAnEpoch(t *testing.T) {
	from, was := old(t)
	about := state{"new", "old 1", "newer"}
	const access, sealed = 272, 4 + 8 + 4 + 1 + 32 + 32
	const mounts = sealed + 1
	steps := func(w *world.World) api.Errno {
		m, e := memory.Mount(w, master)
		if e != api.OK {
			return e
		}
		for _, step := range []func() api.Errno{
			func() api.Errno { return m.Write(0, []byte("new")) },
			func() api.Errno { _, e := m.Read(0); return e },
			func() api.Errno { return m.Write(2, []byte("new")) },
			func() api.Errno { return m.Write(2, []byte("newer")) },
			m.Sync,
		} {
			if e := step(); e != api.OK {
				if !m.Poisoned() || m.Sync() != api.ErrPoison {
					t.Error("it goes on")
				}
				return e
			}
		}
		return api.OK
	}
	for n := range mounts + 4*access + sealed + 4 {
		w, e := crashed(t, from, n, steps)
		want := was
		if n >= mounts+4*access+sealed {
			want = about
		}
		if (e == api.OK) != (n > mounts+4*access+sealed) {
			t.Errorf("with power for %d there is an error %d", n, e)
		}
		whole(t, w, n, want)
	}
}

// Whenever power is lost in Mount, and in the one behind it, and so on, what was certified stays.
func TestCrashInMounts(t *testing.T) {
	from, was := old(t)
	mount := func(w *world.World) api.Errno {
		_, e := memory.Mount(w, master)
		return e
	}
	for n := range 84 {
		for _, next := range []int{0, 1, 40, 80, 81, 82, 83} {
			w, _ := crashed(t, from, n, mount)
			w, _ = crashed(t, w, next, mount)
			w, _ = crashed(t, w, n, mount)
			whole(t, w, n*1000+next, was)
		}
	}
}

// A Sync that ends between the seal and the counter, mounts that end there too: what was about to be is there, and stays.
func TestCrashAtTheCounter(t *testing.T) {
	from, _ := old(t)
	for n := range 84 {
		w := from.Copy()
		m := mounted(t, w)
		write(t, m, 1, "new")
		w.Arm(81)
		if e := m.Sync(); e != api.ErrPower || !m.Poisoned() || m.Number() != 6 {
			t.Fatalf("Sync tells %d, and the number is %d", e, m.Number())
		}
		w.Restart()
		w, _ = crashed(t, w, n, func(w *world.World) api.Errno {
			_, e := memory.Mount(w, master)
			return e
		})
		whole(t, w, n, state{"old 0", "new", "old 2"})
	}
}

// Power that is lost where nothing takes any: what reads tell then is not taken for anything.
func TestDeadWorld(t *testing.T) {
	w, _ := old(t)
	for i, step := range []func(m *memory.Memory) api.Errno{
		(*memory.Memory).Sync,
		func(m *memory.Memory) api.Errno { _, e := m.Read(0); return e },
		func(m *memory.Memory) api.Errno { return m.Write(0, nil) },
	} {
		for touched := range 2 {
			v := w.Copy()
			m := mounted(t, v)
			for at := range touched {
				write(t, m, at, "new")
			}
			v.Arm(0)
			v.Bump()
			was := len(v.Trace())
			if e := step(m); e != api.ErrPower {
				t.Errorf("%d of a dead world tells %d", i, e)
			}
			done(t, v, was)
			v.Restart()
			poisoned(t, m, v)
			whole(t, v, i, state{"old 0", "old 1", "old 2"})
		}
	}
}

// What may not be is no matter of power.
func TestDeadWorldIsAskedLast(t *testing.T) {
	w, _ := old(t)
	m := mounted(t, w)
	w.Arm(0)
	w.Bump()
	if _, e := m.Read(3); e != api.ErrArg || m.Write(0, make([]byte, 257)) != api.ErrArg {
		t.Errorf("Read tells %d", e)
	}
	m.Limit(0)
	if _, e := m.Read(0); e != api.ErrEpoch || m.Poisoned() {
		t.Errorf("Read tells %d", e)
	}
	w.Restart()
	synced(t, m)
}
