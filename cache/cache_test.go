package cache_test

import (
	"bytes"
	"math"
	"slices"
	"strconv"
	"testing"

	"sacristan/api"
	"sacristan/cache"
	"sacristan/memory"
	"sacristan/world"
)

// master is that of all tests.
var master = []byte("master")

// far is places that no memory has a block at.
var far = []int{math.MinInt, math.MinInt + 1, -4096, -16, -2, -1, api.MaxBlocks, api.MaxBlocks + 1, 1 << 32, math.MaxInt}

// padded is text and noughts, a block in all.
func padded(text string) []byte { return append([]byte(text), make([]byte, 256-len(text))...) }

// mounted is a memory of w that has to be there.
func mounted(t *testing.T, w *world.World) *memory.Memory {
	t.Helper()
	m, e := memory.Mount(w, master)
	if e != api.OK {
		t.Fatalf("Mount tells %d", e)
	}
	return m
}

// fresh is a world of so many blocks, of which each has its own number, and a memory of it.
func fresh(t *testing.T, blocks int) (*world.World, *memory.Memory) {
	t.Helper()
	w := world.New(blocks)
	if e := memory.Format(w, master); e != api.OK {
		t.Fatalf("Format tells %d", e)
	}
	m := mounted(t, w)
	for at := range blocks {
		if e := m.Write(at, []byte("was "+strconv.Itoa(at))); e != api.OK {
			t.Fatalf("Write tells %d", e)
		}
	}
	if e := m.Sync(); e != api.OK {
		t.Fatalf("Sync tells %d", e)
	}
	return w, m
}

// puts asks that text is put.
func puts(t *testing.T, c *cache.Cache, at int, text string) {
	t.Helper()
	if e := c.Put(at, []byte(text)); e != api.OK {
		t.Fatalf("Put of %d tells %d", at, e)
	}
}

// gets asks that just text, and noughts, are got.
func gets(t *testing.T, c *cache.Cache, at int, text string) {
	t.Helper()
	if b, e := c.Get(at); e != api.OK || !bytes.Equal(b, padded(text)) {
		t.Fatalf("Get of %d tells %q, %d, not %q", at, bytes.TrimRight(b, "\x00"), e, text)
	}
}

// fails asks that Get tells that error, and nothing else.
func fails(t *testing.T, c *cache.Cache, at int, want api.Errno) {
	t.Helper()
	if b, e := c.Get(at); e != want || len(b) != 0 {
		t.Errorf("Get of %d tells %q, %d, not %d", at, b, e, want)
	}
}

// tells asks for an error.
func tells(t *testing.T, what string, e api.Errno, want api.Errno) {
	t.Helper()
	if e != want {
		t.Errorf("%s tells %d, not %d", what, e, want)
	}
}

// has asks what is held, and what of that is dirty.
func has(t *testing.T, c *cache.Cache, held []int, dirty []int) {
	t.Helper()
	if !slices.Equal(c.Held(), held) || !slices.Equal(c.Dirty(), dirty) {
		t.Errorf("held are %v, dirty %v, not %v, %v", c.Held(), c.Dirty(), held, dirty)
	}
}

// list is a list of numbers.
func list(l ...int) []int { return l }

// written is the blocks that were written to w behind the first few things that were done to it.
func written(w *world.World, was int) []int {
	var l []int
	for _, x := range w.Trace()[was:] {
		if x.Kind == api.DidWrite {
			l = append(l, x.At)
		}
	}
	return l
}

// does asks that doing something writes those blocks to w, in that order, and reads as much as it writes, and as is told
// on top of that.
func does(t *testing.T, w *world.World, writes []int, reads int, do func()) {
	t.Helper()
	was := len(w.Trace())
	do()
	got := written(w, was)
	// An access of a memory is a read, and a write: of a Get that fetches its block too.
	if !slices.Equal(got, writes) || len(w.Trace()) != was+2*len(writes)+reads {
		t.Errorf("it wrote %v, not %v, and did %d things", got, writes, len(w.Trace())-was)
	}
}

func TestNew(t *testing.T) {
	for _, blocks := range []int{1, 2, 17, 100} {
		w, m := fresh(t, blocks)
		does(t, w, nil, 0, func() {
			c := cache.New(m, 3)
			has(t, c, nil, nil)
			if c.Blocks() != blocks {
				t.Errorf("there are %d blocks, not %d", c.Blocks(), blocks)
			}
		})
	}
}

// As many are held as there is room for, and never more.
func TestRoomIsClipped(t *testing.T) {
	const blocks = api.MaxRoom + 50
	_, m := fresh(t, blocks)
	for room, want := range map[int]int{math.MinInt: 1, -1000: 1, -1: 1, 0: 1, 1: 1, 2: 2, 7: 7, 999: 999, 1000: 1000, 1001: 1000, 1049: 1000, math.MaxInt: 1000} {
		c := cache.New(m, room)
		for at := range blocks {
			puts(t, c, at, "is "+strconv.Itoa(at))
			if n := len(c.Held()); n != min(at+1, want) {
				t.Fatalf("with room for %d there are %d held, behind %d", room, n, at+1)
			}
		}
		var last []int
		for at := blocks - want; at < blocks; at++ {
			last = append(last, at)
		}
		has(t, c, last, last)
	}
}

// The first example of the chapter.
func TestRoomForOne(t *testing.T) {
	w, m := fresh(t, 2)
	c := cache.New(m, 1)
	does(t, w, nil, 0, func() { puts(t, c, 0, "a") })
	has(t, c, list(0), list(0))
	// Block 1 is read by an access too, that writes it anew.
	does(t, w, list(0, 1), 0, func() { gets(t, c, 1, "was 1") })
	has(t, c, list(1), nil)
	does(t, w, list(0), 0, func() { gets(t, c, 0, "a") })
	has(t, c, list(0), nil)
}

// What is held is told without the memory; what is not is read from it, and is not dirty.
func TestGet(t *testing.T) {
	w, m := fresh(t, 5)
	c := cache.New(m, 3)
	does(t, w, list(3), 0, func() { gets(t, c, 3, "was 3") })
	does(t, w, nil, 0, func() { gets(t, c, 3, "was 3") })
	does(t, w, list(0), 0, func() { gets(t, c, 0, "was 0") })
	has(t, c, list(3, 0), nil)
	does(t, w, nil, 0, func() { gets(t, c, 3, "was 3"); gets(t, c, 0, "was 0"); gets(t, c, 3, "was 3") })
	has(t, c, list(0, 3), nil)
	// What the memory has by others is not looked for, while the block is held.
	if e := m.Write(3, []byte("another")); e != api.OK {
		t.Fatal(e)
	}
	gets(t, c, 3, "was 3")
	gets(t, c, 1, "was 1")
	gets(t, c, 2, "was 2")
	gets(t, c, 4, "was 4")
	gets(t, c, 3, "another")
	has(t, c, list(2, 4, 3), nil)
}

// What was put is got, padded, of any length that may be, while it is held, and when it is not any more.
func TestPut(t *testing.T) {
	w, m := fresh(t, 3)
	c := cache.New(m, 1)
	for n := range api.Body + 1 {
		text := string(bytes.Repeat([]byte{byte(n), 0xff}, 128)[:n])
		puts(t, c, n%2, text)
		does(t, w, nil, 0, func() { gets(t, c, n%2, text) })
		has(t, c, list(n%2), list(n%2))
		gets(t, c, 2, "was 2")
		has(t, c, list(2), nil)
		gets(t, c, n%2, text)
		has(t, c, list(n%2), nil)
	}
	// Nothing of what a block had stays there, held or not.
	puts(t, c, 0, "a long one")
	puts(t, c, 0, "b")
	gets(t, c, 0, "b")
	tells(t, "Put", c.Put(0, nil), api.OK)
	gets(t, c, 0, "")
	gets(t, c, 2, "was 2")
	gets(t, c, 0, "")
}

// A Put needs no read of the memory, and of what is held nobody has to go.
func TestPutOfWhatIsHeld(t *testing.T) {
	w, m := fresh(t, 4)
	c := cache.New(m, 2)
	gets(t, c, 0, "was 0")
	does(t, w, nil, 0, func() { puts(t, c, 1, "a") })
	has(t, c, list(0, 1), list(1))
	does(t, w, nil, 0, func() { puts(t, c, 0, "b") })
	has(t, c, list(1, 0), list(0, 1))
	does(t, w, nil, 0, func() { puts(t, c, 1, "c"); puts(t, c, 1, "d") })
	has(t, c, list(0, 1), list(0, 1))
	gets(t, c, 0, "b")
	gets(t, c, 1, "d")
	has(t, c, list(0, 1), list(0, 1))
}

// The one goes that was got or put first, of what each was last; it is written if it is dirty, and then alone.
func TestRoomIsMade(t *testing.T) {
	w, m := fresh(t, 9)
	c := cache.New(m, 3)
	puts(t, c, 5, "five")
	gets(t, c, 2, "was 2")
	puts(t, c, 7, "seven")
	gets(t, c, 5, "five")
	has(t, c, list(2, 7, 5), list(5, 7))
	does(t, w, nil, 0, func() { puts(t, c, 0, "nought") })
	has(t, c, list(7, 5, 0), list(0, 5, 7))
	does(t, w, list(7, 8), 0, func() { gets(t, c, 8, "was 8") })
	has(t, c, list(5, 0, 8), list(0, 5))
	does(t, w, list(5), 0, func() { puts(t, c, 1, "one") })
	has(t, c, list(0, 8, 1), list(0, 1))
	does(t, w, nil, 0, func() { puts(t, c, 0, "nothing") })
	has(t, c, list(8, 1, 0), list(0, 1))
	does(t, w, list(5), 0, func() { gets(t, c, 5, "five") })
	does(t, w, list(1, 7), 0, func() { gets(t, c, 7, "seven") })
	does(t, w, list(0, 1), 0, func() { gets(t, c, 1, "one") })
	has(t, c, list(5, 7, 1), nil)
}

// Where there is no such block, or too many bytes, nothing is done: no room is made, and none is older than it was.
func TestWhatMayNotBe(t *testing.T) {
	for _, blocks := range []int{1, 3, 17} {
		w, m := fresh(t, blocks)
		c := cache.New(m, 2)
		puts(t, c, 0, "a")
		if blocks > 1 {
			puts(t, c, 2, "b")
			gets(t, c, 0, "a")
		}
		held, dirty := c.Held(), c.Dirty()
		// That stands ahead of the errors of a memory, so it is told in place of these.
		m.Limit(0)
		does(t, w, nil, 0, func() {
			for _, at := range append(list(blocks, blocks+1), far...) {
				fails(t, c, at, api.ErrArg)
				tells(t, "Put", c.Put(at, nil), api.ErrArg)
				tells(t, "Put", c.Put(at, []byte("a")), api.ErrArg)
				tells(t, "Put", c.Put(at, make([]byte, 257)), api.ErrArg)
			}
			for at := range blocks {
				for _, n := range []int{257, 258, 512, 100000} {
					tells(t, "Put", c.Put(at, make([]byte, n)), api.ErrArg)
				}
			}
		})
		has(t, c, held, dirty)
		gets(t, c, 0, "a")
	}
}

// What cannot be written stays, as it was, and where it was.
func TestNoRoomIsMade(t *testing.T) {
	w, m := fresh(t, 5)
	c := cache.New(m, 2)
	puts(t, c, 3, "a")
	gets(t, c, 1, "was 1")
	m.Limit(0)
	does(t, w, nil, 0, func() {
		for range 2 {
			fails(t, c, 0, api.ErrEpoch)
			tells(t, "Put", c.Put(2, []byte("b")), api.ErrEpoch)
			has(t, c, list(3, 1), list(3))
		}
		// What is held needs no room.
		gets(t, c, 3, "a")
		puts(t, c, 1, "c")
		has(t, c, list(3, 1), list(1, 3))
	})
	m.Limit(api.MaxSeq)
	does(t, w, list(3), 0, func() { puts(t, c, 2, "b") })
	has(t, c, list(1, 2), list(1, 2))
	gets(t, c, 0, "was 0")
	gets(t, c, 3, "a")
	gets(t, c, 1, "c")
	gets(t, c, 2, "b")
}

// Room is made ahead of the read: where that fails, there is room, and nothing else.
func TestReadFails(t *testing.T) {
	w, m := fresh(t, 5)
	c := cache.New(m, 2)
	puts(t, c, 3, "a")
	puts(t, c, 1, "b")
	m.Limit(1)
	does(t, w, list(3), 0, func() { fails(t, c, 0, api.ErrEpoch) })
	has(t, c, list(1), list(1))
	does(t, w, nil, 0, func() { fails(t, c, 0, api.ErrEpoch); fails(t, c, 3, api.ErrEpoch) })
	has(t, c, list(1), list(1))
	does(t, w, nil, 0, func() { puts(t, c, 0, "c") })
	has(t, c, list(1, 0), list(0, 1))
	does(t, w, nil, 0, func() { fails(t, c, 4, api.ErrEpoch) })
	has(t, c, list(1, 0), list(0, 1))
	m.Limit(9)
	gets(t, c, 3, "a")
	has(t, c, list(0, 3), list(0))
}

// What is clean goes without the memory, also where nothing can be written.
func TestCleanOnesGo(t *testing.T) {
	w, m := fresh(t, 5)
	c := cache.New(m, 2)
	gets(t, c, 0, "was 0")
	gets(t, c, 1, "was 1")
	m.Limit(0)
	does(t, w, nil, 0, func() { puts(t, c, 2, "a"); puts(t, c, 3, "b") })
	has(t, c, list(2, 3), list(2, 3))
	tells(t, "Put", c.Put(4, nil), api.ErrEpoch)
	has(t, c, list(2, 3), list(2, 3))
}

// Each that is dirty is written, rising, whatever was put first; none is older then than it was.
func TestFlush(t *testing.T) {
	w, m := fresh(t, 20)
	c := cache.New(m, 6)
	does(t, w, nil, 0, func() { tells(t, "Flush", c.Flush(), api.OK) })
	puts(t, c, 19, "a")
	puts(t, c, 4, "b")
	gets(t, c, 11, "was 11")
	puts(t, c, 0, "c")
	puts(t, c, 12, "d")
	has(t, c, list(19, 4, 11, 0, 12), list(0, 4, 12, 19))
	does(t, w, list(0, 4, 12, 19), 0, func() { tells(t, "Flush", c.Flush(), api.OK) })
	has(t, c, list(19, 4, 11, 0, 12), nil)
	does(t, w, nil, 0, func() { tells(t, "Flush", c.Flush(), api.OK) })
	for at, text := range map[int]string{19: "a", 4: "b", 11: "was 11", 0: "c", 12: "d", 1: "was 1"} {
		if b, e := m.Read(at); e != api.OK || !bytes.Equal(b, padded(text)) {
			t.Errorf("Read of %d tells %q, %d", at, b, e)
		}
	}
	// Once it is written, it is dirty again just by a Put.
	gets(t, c, 19, "a")
	has(t, c, list(4, 11, 0, 12, 19), nil)
	puts(t, c, 4, "b")
	does(t, w, list(4), 0, func() { tells(t, "Flush", c.Flush(), api.OK) })
}

// It ends at the first error: what was written ahead of that is not dirty, all else stays.
func TestFlushEnds(t *testing.T) {
	for n := range 5 {
		w, m := fresh(t, 20)
		c := cache.New(m, 4)
		all, held := list(2, 5, 8, 17), list(8, 2, 17, 5)
		for _, at := range held {
			puts(t, c, at, strconv.Itoa(at))
		}
		m.Limit(n)
		want := api.ErrEpoch
		if n == 4 {
			want = api.OK
		}
		does(t, w, all[:n], 0, func() { tells(t, "Flush", c.Flush(), want) })
		has(t, c, held, all[n:])
		does(t, w, nil, 0, func() { tells(t, "Flush", c.Flush(), want) })
		has(t, c, held, all[n:])
		m.Limit(4)
		does(t, w, all[n:], 0, func() { tells(t, "Flush", c.Flush(), api.OK) })
		has(t, c, held, nil)
		for _, at := range held {
			gets(t, c, at, strconv.Itoa(at))
		}
	}
}

// All is written, and then certified: another memory of that world has it.
func TestSync(t *testing.T) {
	w, m := fresh(t, 20)
	c := cache.New(m, 4)
	for at := range 20 {
		puts(t, c, at, "is "+strconv.Itoa(at))
	}
	n := m.Number()
	was := len(w.Trace())
	tells(t, "Sync", c.Sync(), api.OK)
	if got := written(w, was); !slices.Equal(got, list(16, 17, 18, 19)) || m.Number() != n+1 {
		t.Errorf("it wrote %v, and the number is %d", got, m.Number())
	}
	has(t, c, list(16, 17, 18, 19), nil)
	// Nothing is dirty: so there are just a seal, and a bump, of an epoch in which nothing was done.
	does(t, w, nil, 2, func() { tells(t, "Sync", c.Sync(), api.OK) })
	puts(t, c, 3, "tentative")
	tells(t, "Flush", c.Flush(), api.OK)
	again := cache.New(mounted(t, w), 1000)
	for at := range 20 {
		gets(t, again, at, "is "+strconv.Itoa(at))
	}
}

// Flush's error is told ahead of the memory's, and then nothing is certified.
func TestSyncFails(t *testing.T) {
	w, m := fresh(t, 3)
	c := cache.New(m, 3)
	puts(t, c, 0, "a")
	puts(t, c, 1, "b")
	m.Limit(1)
	n := m.Number()
	does(t, w, list(0), 0, func() { tells(t, "Sync", c.Sync(), api.ErrEpoch) })
	has(t, c, list(0, 1), list(1))
	if m.Poisoned() || m.Number() != n {
		t.Error("the memory was synced")
	}
	m.Limit(2)
	tells(t, "Sync", c.Sync(), api.OK)
	has(t, c, list(0, 1), nil)
	if m.Number() != n+1 {
		t.Errorf("the number is %d, not %d", m.Number(), n+1)
	}
	// Where nothing is dirty, the memory's own error is told.
	w.Set(math.MaxUint64)
	tells(t, "Sync", c.Sync(), api.ErrCounter)
	tells(t, "Flush", c.Flush(), api.OK)
	tells(t, "Sync", c.Sync(), api.ErrPoison)
	puts(t, c, 0, "c")
	tells(t, "Sync", c.Sync(), api.ErrPoison)
	has(t, c, list(1, 0), list(0))
}

func TestNilCache(t *testing.T) {
	var c *cache.Cache
	for _, at := range append(list(0, 1), far...) {
		fails(t, c, at, api.ErrNil)
		tells(t, "Put", c.Put(at, nil), api.ErrNil)
		tells(t, "Put", c.Put(at, make([]byte, 257)), api.ErrNil)
	}
	tells(t, "Flush", c.Flush(), api.ErrNil)
	tells(t, "Sync", c.Sync(), api.ErrNil)
	has(t, c, nil, nil)
	if c.Blocks() != 0 {
		t.Errorf("it has %d blocks", c.Blocks())
	}
}

// A memory that is not there has no blocks; what else it tells is told on. So does one that nobody mounted.
func TestNoMemory(t *testing.T) {
	caches := map[*cache.Cache]api.Errno{new(cache.Cache): api.ErrNil, cache.New(nil, -1): api.ErrNil, cache.New(nil, 7): api.ErrNil, cache.New(new(memory.Memory), 7): new(memory.Memory).Sync()}
	for c, want := range caches {
		for _, at := range append(list(0, 1), far...) {
			fails(t, c, at, api.ErrArg)
			tells(t, "Put", c.Put(at, nil), api.ErrArg)
			tells(t, "Put", c.Put(at, make([]byte, 257)), api.ErrArg)
		}
		tells(t, "Flush", c.Flush(), api.OK)
		tells(t, "Sync", c.Sync(), want)
		has(t, c, nil, nil)
		if c.Blocks() != 0 {
			t.Errorf("it has %d blocks", c.Blocks())
		}
	}
}

// What is handed in is not kept, or changed, and what comes out is nobody else's.
func TestNothingIsShared(t *testing.T) {
	_, m := fresh(t, 4)
	c := cache.New(m, 3)
	body := []byte("abc and more")
	tells(t, "Put", c.Put(0, body[:3]), api.OK)
	whole := padded("whole")
	tells(t, "Put", c.Put(1, whole), api.OK)
	gets(t, c, 2, "was 2")
	tells(t, "Flush", c.Flush(), api.OK)
	if string(body) != "abc and more" || !bytes.Equal(whole, padded("whole")) {
		t.Errorf("what was handed in is %q, and %q", body, whole)
	}
	copy(body, "xyz")
	copy(whole, "other")
	for at, text := range map[int]string{0: "abc", 1: "whole", 2: "was 2"} {
		for range 2 {
			b, e := c.Get(at)
			if e != api.OK || !bytes.Equal(b, padded(text)) {
				t.Errorf("Get of %d tells %q, %d", at, b, e)
			}
			clear(b)
			_ = append(b, "behind it"...)
		}
	}
	puts(t, c, 0, "abc")
	puts(t, c, 1, "whole")
	for _, told := range []func() []int{c.Held, c.Dirty} {
		l, want := told(), told()
		for i := range l {
			l[i] = -7
		}
		_ = append(l[:1], -8, -9, -10)
		if !slices.Equal(told(), want) {
			t.Errorf("there are %v, not %v", told(), want)
		}
	}
	gets(t, c, 3, "was 3")
	gets(t, c, 0, "abc")
	gets(t, c, 1, "whole")
	gets(t, c, 2, "was 2")
}

// Each has what is held for itself, though they have one memory.
func TestTwoCaches(t *testing.T) {
	_, m := fresh(t, 3)
	a, b := cache.New(m, 2), cache.New(m, 3)
	puts(t, a, 0, "a")
	gets(t, b, 0, "was 0")
	puts(t, b, 1, "b")
	has(t, a, list(0), list(0))
	has(t, b, list(0, 1), list(1))
	tells(t, "Flush", a.Flush(), api.OK)
	gets(t, b, 0, "was 0")
	gets(t, a, 1, "was 1")
	tells(t, "Sync", b.Sync(), api.OK)
	gets(t, a, 1, "was 1")
	gets(t, cache.New(m, 1), 0, "a")
	gets(t, cache.New(m, 1), 1, "b")
}
