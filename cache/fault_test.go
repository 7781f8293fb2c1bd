package cache_test

import (
	"bytes"
	"slices"
	"testing"

	"sacristan/api"
	"sacristan/cache"
	"sacristan/memory"
	"sacristan/world"
)

// reads is how many reads there were of w, those of seals too.
func reads(w *world.World) int {
	n := 0
	for _, x := range w.Trace() {
		if x.Kind == api.DidRead || x.Kind == api.DidLook {
			n++
		}
	}
	return n
}

// What the memory refuses is told, whichever error that is; what is held is told on, for it was right when it came.
func TestErrorsOfTheMemory(t *testing.T) {
	for want, fault := range map[api.Errno]func(w *world.World, m *memory.Memory){
		api.ErrPower:  func(w *world.World, m *memory.Memory) { w.Arm(100) },
		api.ErrForged: func(w *world.World, m *memory.Memory) { w.Lie(reads(w), []byte("no block")) },
		api.ErrPoison: func(w *world.World, m *memory.Memory) { w.Lie(reads(w), nil); m.Read(4) },
		api.ErrEpoch:  func(w *world.World, m *memory.Memory) { m.Limit(0) },
	} {
		// Whichever call comes first.
		for first := range 4 {
			w, m := fresh(t, 5)
			c := cache.New(m, 2)
			puts(t, c, 3, "a")
			puts(t, c, 1, "b")
			calls := []func() api.Errno{
				func() api.Errno { _, e := c.Get(0); return e },
				func() api.Errno { return c.Put(0, []byte("c")) },
				c.Flush,
				c.Sync,
			}
			fault(w, m)
			tells(t, "the first call", calls[first](), want)
			has(t, c, list(3, 1), list(1, 3))
			later := api.ErrPoison
			if want == api.ErrEpoch {
				later = want
			}
			for _, call := range calls {
				tells(t, "a call behind it", call(), later)
			}
			fails(t, c, 5, api.ErrArg)
			gets(t, c, 3, "a")
			gets(t, c, 1, "b")
			puts(t, c, 3, "d")
			gets(t, c, 3, "d")
			has(t, c, list(1, 3), list(1, 3))
		}
	}
}

// A read that fails holds nothing, also where there is room.
func TestReadThatIsForged(t *testing.T) {
	w, m := fresh(t, 5)
	c := cache.New(m, 3)
	gets(t, c, 3, "was 3")
	w.Lie(reads(w), bytes.Repeat([]byte{255}, 272))
	fails(t, c, 0, api.ErrForged)
	has(t, c, list(3), nil)
	fails(t, c, 0, api.ErrPoison)
	has(t, c, list(3), nil)
	tells(t, "Flush", c.Flush(), api.OK)
	tells(t, "Sync", c.Sync(), api.ErrPoison)
}

// A lie is told on as it is; it is found by Sync.
func TestLie(t *testing.T) {
	w, m := fresh(t, 5)
	c := cache.New(m, 3)
	w.Lie(reads(w), make([]byte, 272))
	b, e := c.Get(0)
	if e != api.OK || bytes.Equal(b, padded("was 0")) {
		t.Errorf("Get tells %q, %d", b, e)
	}
	if again, e := c.Get(0); e != api.OK || !bytes.Equal(again, b) {
		t.Errorf("Get tells %q, %d, then %q", b, e, again)
	}
	tells(t, "Sync", c.Sync(), api.ErrAudit)
}

// Whenever power is lost, there is what was certified last, or what was about to be; what was told to be certified is.
func TestCrash(t *testing.T) {
	from, _ := fresh(t, 4)
	was, about := []string{"was 0", "was 1", "was 2", "was 3"}, []string{"new", "newer", "was 2", "newest"}
	steps := func(w *world.World) api.Errno {
		m, e := memory.Mount(w, master)
		if e != api.OK {
			return e
		}
		c := cache.New(m, 2)
		get := func() api.Errno { _, e := c.Get(2); return e }
		put := func(at int, text string) func() api.Errno {
			return func() api.Errno { return c.Put(at, []byte(text)) }
		}
		for _, step := range []func() api.Errno{put(0, "new"), put(1, "old"), get, put(1, "newer"), put(3, "newest"), c.Sync} {
			if e := step(); e != api.OK {
				return e
			}
		}
		return api.OK
	}
	for n, done := 0, false; !done; n++ {
		w := from.Copy()
		w.Arm(n)
		e := steps(w)
		if done = e == api.OK; e != api.OK && e != api.ErrPower {
			t.Fatalf("with power for %d there is an error %d", n, e)
		}
		w.Restart()
		c := cache.New(mounted(t, w), 4)
		var got []string
		for at := range 4 {
			b, e := c.Get(at)
			if e != api.OK {
				t.Fatalf("Get of %d tells %d", at, e)
			}
			got = append(got, string(bytes.TrimRight(b, "\x00")))
		}
		if !slices.Equal(got, about) && (done || !slices.Equal(got, was)) {
			t.Fatalf("with power for %d there is %q", n, got)
		}
		tells(t, "Sync", c.Sync(), api.OK)
	}
}
