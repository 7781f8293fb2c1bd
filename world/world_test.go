package world_test

import (
	"bytes"
	"math"
	"slices"
	"sync"
	"testing"

	"sacristan/api"
	"sacristan/world"
)

const (
	wide      = 272 // bytes of a slot
	mostPower = 1000000
)

// counted is n bytes from one on, each other than the one ahead of it, none a nought.
func counted(from, n int) []byte {
	b := make([]byte, n)
	for i := range b {
		b[i] = byte((from+i)%255 + 1)
	}
	return b
}

// padded is what a slot has, that b was written to.
func padded(b []byte) []byte {
	l := make([]byte, wide)
	copy(l, b)
	return l
}

// same is whether two lists of what was traced are the same, whatever of them is nil.
func same(a, b []api.Trace) bool {
	return slices.EqualFunc(a, b, func(x, y api.Trace) bool {
		return x.Kind == y.Kind && x.At == y.At && x.Slot == y.Slot && bytes.Equal(x.Bytes, y.Bytes)
	})
}

// holdsSlot holds what is told of a slot against what it has to be.
func holdsSlot(t *testing.T, w *world.World, at, slot int, want []byte) {
	t.Helper()
	if b := w.Read(at, slot); !bytes.Equal(b, want) {
		t.Errorf("slot %d of block %d is %x, not %x", slot, at, b, want)
	}
}

// holdsSeal holds what is told of a seal against what it has to be.
func holdsSeal(t *testing.T, w *world.World, i int, want []byte) {
	t.Helper()
	if b := w.Look(i); !bytes.Equal(b, want) {
		t.Errorf("seal %d is %x, not %x", i, b, want)
	}
}

// holdsTrace holds all that was traced against what it has to be.
func holdsTrace(t *testing.T, w *world.World, want ...api.Trace) {
	t.Helper()
	if l := w.Trace(); !same(l, want) {
		t.Errorf("traced is %+v, not %+v", l, want)
	}
}

// strange are places that nothing has.
func strange() []int {
	return []int{-1, -2, math.MinInt, math.MinInt32, 2, 3, 4096, math.MaxInt32, math.MaxInt32 + 1, math.MaxInt}
}

func TestNew(t *testing.T) {
	for _, x := range []struct{ asked, blocks int }{
		{math.MinInt, 0}, {-1, 0}, {0, 0}, {1, 1}, {2, 2}, {64, 64}, {4095, 4095}, {4096, 4096}, {4097, 4096}, {math.MaxInt, 4096},
	} {
		w := world.New(x.asked)
		if w.Blocks() != x.blocks || w.Counter() != 0 || w.Dead() || len(w.Trace()) != 0 {
			t.Errorf("of %d blocks there are %d; the counter is %d, %d things are traced", x.asked, w.Blocks(), w.Counter(), len(w.Trace()))
		}
		for _, i := range []int{0, 1} {
			holdsSeal(t, w, i, nil)
		}
		for at := range x.blocks {
			holdsSlot(t, w, at, 0, padded(nil))
			holdsSlot(t, w, at, 1, padded(nil))
		}
		for _, slot := range []int{0, 1} {
			holdsSlot(t, w, x.blocks, slot, nil)
			holdsSlot(t, w, -1, slot, nil)
		}
		if len(w.Trace()) != 2*x.blocks+2 {
			t.Errorf("of %d blocks, each read, %d things are traced", x.blocks, len(w.Trace()))
		}
	}
}

// What is not armed lasts, beyond all that power may be armed with.
func TestPowerIsNotArmed(t *testing.T) {
	w := world.New(1)
	if !w.Seal(0, make([]byte, mostPower)) || !w.Seal(1, make([]byte, mostPower)) || !w.Write(0, 0, nil) || !w.Bump() || w.Dead() {
		t.Error("power that is not armed is lost")
	}
}

// The example: ab, and c over it.
func TestTornExample(t *testing.T) {
	w := world.New(1)
	if !w.Write(0, 1, []byte("ab")) || !bytes.HasPrefix(w.Read(0, 1), []byte("ab")) {
		t.Error("ab is not told as it was written")
	}
	w.Arm(1)
	if w.Write(0, 1, []byte("cd")) {
		t.Error("power for one byte is enough for more")
	}
	w.Restart()
	holdsSlot(t, w, 0, 1, padded([]byte("cb")))
	holdsSlot(t, w, 0, 0, padded(nil))
}

// Of all lengths, over what was there: what is written is all that a slot has, padded and cut.
func TestWrite(t *testing.T) {
	for _, n := range []int{0, 1, 2, 16, 255, 256, 271, 272, 273, 300, 5000} {
		w := world.New(3)
		for at := range 3 {
			for slot := range 2 {
				w.Write(at, slot, counted(100*at+50*slot, wide))
			}
		}
		b := counted(7, n)
		if !w.Write(1, 1, b) || w.Dead() {
			t.Errorf("%d bytes are not written", n)
		}
		for at := range 3 {
			for slot := range 2 {
				want := counted(100*at+50*slot, wide)
				if at == 1 && slot == 1 {
					want = padded(b)
				}
				holdsSlot(t, w, at, slot, want)
			}
		}
		if l := w.Trace(); len(l[6].Bytes) != n {
			t.Errorf("of %d bytes that were handed in %d are traced", n, len(l[6].Bytes))
		}
	}
}

// A seal has just what it was sealed with last; the other one is as it was.
func TestSeal(t *testing.T) {
	w := world.New(0)
	for _, n := range []int{3, 0, 1, 300, 299, 5000, 2, 2} {
		for i := range 2 {
			other := counted(9, 40)
			if !w.Seal(1-i, other) || !w.Seal(i, counted(n, n)) {
				t.Errorf("%d bytes are not sealed", n)
			}
			holdsSeal(t, w, i, counted(n, n))
			holdsSeal(t, w, 1-i, other)
		}
	}
}

// What is not there is not told, not done, not counted, and not traced; and takes no power.
func TestNotThere(t *testing.T) {
	w := world.New(2)
	w.Lie(0, []byte("lie"))
	w.Arm(wide)
	for _, n := range strange() {
		for k := range 2 {
			if w.Read(n, k) != nil || w.Read(k, n) != nil || w.Read(n, n) != nil || w.Write(n, k, []byte("w")) || w.Write(k, n, nil) || w.Write(n, n, nil) {
				t.Errorf("there is a slot of %d and %d", n, k)
			}
		}
		if w.Look(n) != nil || w.Seal(n, []byte("s")) || w.Seal(n, nil) {
			t.Errorf("there is a seal %d", n)
		}
	}
	holdsTrace(t, w)
	if w.Dead() || !w.Write(0, 0, nil) {
		t.Error("what is not there takes power")
	}
	holdsSlot(t, w, 0, 0, []byte("lie"))
	if none := world.New(0); none.Write(0, 0, nil) || none.Read(0, 0) != nil || !none.Seal(0, nil) || !none.Bump() {
		t.Error("without blocks there are some, or no seals and no counter")
	}
}

func TestCounter(t *testing.T) {
	w := world.New(1)
	for i := range 300 {
		if w.Counter() != uint64(i) || !w.Bump() {
			t.Errorf("the counter is %d, not %d", w.Counter(), i)
		}
	}
	for _, n := range []uint64{0, 5, math.MaxInt64, math.MaxInt64 + 1, math.MaxUint64 - 1} {
		w.Set(n)
		if w.Counter() != n || !w.Bump() || w.Counter() != n+1 {
			t.Errorf("it was set to %d, and is %d behind a Bump", n, w.Counter())
		}
	}
	was := w.Trace()
	if w.Bump() || w.Bump() || w.Counter() != math.MaxUint64 || w.Dead() {
		t.Error("the greatest counter rises")
	}
	holdsTrace(t, w, was...)
	w.Set(3)
	if !w.Bump() || w.Counter() != 4 {
		t.Errorf("it was set to 3, and is %d behind a Bump", w.Counter())
	}
}

// A Bump that cannot rise takes no power, and loses none.
func TestGreatestCounterTakesNoPower(t *testing.T) {
	w := world.New(1)
	w.Set(math.MaxUint64)
	w.Arm(1)
	if w.Bump() || w.Bump() || w.Dead() {
		t.Error("a counter that cannot rise takes power")
	}
	w.Set(0)
	if !w.Bump() || w.Bump() || !w.Dead() {
		t.Error("power for one Bump is for another number")
	}
}

// Reads are counted from 0 on, those of seals too; each lie is told once, in its place, and keeps nothing.
func TestLie(t *testing.T) {
	w := world.New(1)
	w.Write(0, 0, []byte("slot"))
	w.Seal(1, []byte("seal"))
	w.Lie(1, []byte("one"))
	w.Lie(4, []byte("four"))
	w.Lie(3, counted(0, 1000))
	slot, seal := padded([]byte("slot")), []byte("seal")
	holdsSlot(t, w, 0, 0, slot)
	holdsSeal(t, w, 1, []byte("one"))
	holdsSeal(t, w, 1, seal)
	holdsSlot(t, w, 0, 0, counted(0, 1000))
	holdsSlot(t, w, 0, 1, []byte("four"))
	holdsSlot(t, w, 0, 1, padded(nil))
	holdsSlot(t, w, 0, 0, slot)
	holdsSeal(t, w, 1, seal)
	l := w.Trace()
	if string(l[3].Bytes) != "one" || l[3].Kind != api.DidLook || l[3].At != 1 || !bytes.Equal(l[5].Bytes, counted(0, 1000)) {
		t.Errorf("of what was told there is traced %+v", l)
	}
}

// A lie stands in place of another one; it may be of no bytes; of a read that was already it is never told.
func TestLieInPlace(t *testing.T) {
	w := world.New(1)
	w.Write(0, 0, []byte("slot"))
	slot := padded([]byte("slot"))
	w.Lie(0, []byte("first"))
	w.Lie(0, []byte("second"))
	w.Lie(1, []byte("first"))
	w.Lie(1, nil)
	w.Lie(2, []byte{})
	w.Lie(3, nil)
	w.Lie(3, []byte("second"))
	w.Lie(-1, []byte("no"))
	w.Lie(math.MinInt, []byte("no"))
	w.Lie(math.MaxInt, []byte("no"))
	for _, want := range [][]byte{[]byte("second"), nil, nil, []byte("second"), slot} {
		holdsSlot(t, w, 0, 0, want)
	}
	for n := range 5 {
		w.Lie(n, []byte("late"))
	}
	holdsSlot(t, w, 0, 0, slot)
	w.Lie(6, []byte("six"))
	holdsSlot(t, w, 0, 0, []byte("six"))
	if l := w.Trace(); len(l) != 8 || l[2].Kind != api.DidRead || len(l[2].Bytes) != 0 {
		t.Errorf("traced is %+v", l)
	}
}

// At every byte power may be lost: what was written ahead of that is there, all else is as it was.
func TestTornWrite(t *testing.T) {
	was, b := counted(0, wide), counted(100, wide-20)
	whole := padded(b)
	for n := range wide + 3 {
		w := world.New(2)
		w.Write(1, 0, was)
		w.Write(1, 1, was)
		w.Arm(n)
		done := w.Write(1, 0, b)
		if done != (n >= wide) || w.Dead() == done {
			t.Errorf("with power for %d bytes: %v; that it is lost: %v", n, done, w.Dead())
		}
		w.Restart()
		cut := min(n, wide)
		holdsSlot(t, w, 1, 0, slices.Concat(whole[:cut], was[cut:]))
		holdsSlot(t, w, 1, 1, was)
		holdsSlot(t, w, 0, 0, padded(nil))
	}
}

// What stands behind a slot's bytes is not written, and takes no power.
func TestPowerOfCutBytes(t *testing.T) {
	w := world.New(1)
	w.Arm(wide)
	if !w.Write(0, 0, counted(0, 5000)) || w.Dead() {
		t.Error("power for a whole slot is not enough for one")
	}
	if w.Write(0, 1, nil) || !w.Dead() {
		t.Error("noughts take no power")
	}
}

// Of a seal too, whether what it had was longer or shorter.
func TestTornSeal(t *testing.T) {
	for _, long := range []int{0, 1, 5, 6, 7, 20} {
		for _, size := range []int{0, 1, 5, 6, 7, 20} {
			for n := range size + 2 {
				was, b := counted(0, long), counted(100, size)
				w := world.New(0)
				w.Seal(0, was)
				w.Seal(1, was)
				w.Arm(n)
				done := w.Seal(0, b)
				if done != (n >= size) || w.Dead() == done {
					t.Errorf("with power for %d bytes, of %d: %v", n, size, done)
				}
				w.Restart()
				want := b
				if n < size {
					want = slices.Concat(b[:n], was[min(n, long):])
				}
				holdsSeal(t, w, 0, want)
				holdsSeal(t, w, 1, was)
			}
		}
	}
}

// Bytes of slots and of seals, and Bumps, take from one power; nothing else does.
func TestPowerIsShared(t *testing.T) {
	w := world.New(1)
	w.Arm(wide + 10 + 2)
	if !w.Seal(0, counted(0, 4)) || !w.Bump() || !w.Write(0, 0, nil) || !w.Seal(1, counted(0, 6)) || !w.Bump() {
		t.Error("power for all is not enough")
	}
	w.Read(0, 0)
	w.Look(1)
	w.Lie(9, counted(0, 50))
	w.Set(40)
	w.Trace()
	w.Copy()
	if w.Dead() || !w.Seal(0, nil) || w.Dead() || w.Blocks() != 1 || w.Counter() != 40 {
		t.Error("power is lost by what takes none")
	}
	if w.Bump() || !w.Dead() {
		t.Error("there was more power than was armed")
	}
	w.Restart()
	if w.Counter() != 40 {
		t.Errorf("a Bump that was lost leaves %d", w.Counter())
	}
	holdsSeal(t, w, 0, nil)
	holdsSeal(t, w, 1, counted(0, 6))
}

func TestArm(t *testing.T) {
	for _, x := range []struct{ asked, power int }{
		{math.MinInt, 0}, {-1, 0}, {0, 0}, {1, 1}, {999999, 999999}, {1000000, 1000000}, {1000001, 1000000}, {math.MaxInt, 1000000},
	} {
		w := world.New(0)
		w.Arm(x.asked)
		if !w.Seal(0, make([]byte, x.power)) || w.Dead() {
			t.Errorf("of power for %d there is less than %d", x.asked, x.power)
		}
		if w.Bump() || !w.Dead() {
			t.Errorf("of power for %d there is more than %d", x.asked, x.power)
		}
	}
}

// What is armed again is what it is armed with last; Restart takes that away, whether power was lost or not.
func TestArmAgain(t *testing.T) {
	w := world.New(0)
	w.Arm(0)
	w.Arm(2)
	if !w.Bump() || !w.Bump() || w.Dead() {
		t.Error("it was armed with 2 last, and is lost")
	}
	w.Arm(1)
	w.Restart()
	if !w.Bump() || !w.Bump() || w.Dead() {
		t.Error("behind a Restart it is armed")
	}
	w.Arm(0)
	w.Bump()
	w.Arm(5)
	if !w.Dead() || w.Bump() {
		t.Error("what is lost is armed")
	}
	w.Restart()
	for range 10 {
		if !w.Bump() {
			t.Error("behind a Restart it is armed as it was while it was lost")
		}
	}
}

// lost is a world whose power is lost, by the Bump ahead of 7.
func lost() *world.World {
	w := world.New(2)
	w.Write(0, 1, []byte("slot"))
	w.Seal(1, []byte("seal"))
	w.Set(7)
	w.Arm(0)
	w.Bump()
	return w
}

// While power is lost nothing is told but Blocks, Trace and that it is, and nothing is done but Copy, Lie, Set and Restart.
func TestLost(t *testing.T) {
	w := lost()
	was := w.Trace()
	w.Lie(1, []byte("lie"))
	for range 3 {
		if w.Read(0, 1) != nil || w.Look(1) != nil || w.Counter() != 0 {
			t.Error("something is told")
		}
		if w.Write(0, 1, []byte("other")) || w.Write(0, 1, nil) || w.Seal(1, []byte("other")) || w.Seal(1, nil) || w.Bump() {
			t.Error("something is done")
		}
		if !w.Dead() || w.Blocks() != 2 {
			t.Error("that power is lost, or how many blocks there are, is not told")
		}
	}
	holdsTrace(t, w, was...)
	w.Set(8)
	if w.Counter() != 0 {
		t.Error("the counter is told")
	}
	w.Restart()
	if w.Dead() || w.Counter() != 8 {
		t.Errorf("behind a Restart the counter is %d", w.Counter())
	}
	holdsSlot(t, w, 0, 1, padded([]byte("slot")))
	holdsSeal(t, w, 1, []byte("lie"))
	holdsSeal(t, w, 1, []byte("seal"))
	if !w.Bump() || w.Counter() != 9 {
		t.Error("behind a Restart the counter does not rise")
	}
}

// Where nothing was done to the counter meanwhile it is there again.
func TestLostCounter(t *testing.T) {
	w := lost()
	w.Restart()
	if w.Counter() != 7 {
		t.Errorf("the counter is %d, not 7", w.Counter())
	}
}

func TestTrace(t *testing.T) {
	w := world.New(3)
	holdsTrace(t, w)
	w.Write(2, 1, []byte("w"))
	w.Seal(1, counted(0, 400))
	w.Bump()
	w.Read(2, 1)
	w.Look(1)
	w.Look(0)
	w.Lie(3, nil)
	w.Read(0, 0)
	w.Write(1, 0, nil)
	w.Seal(0, nil)
	w.Set(5)
	w.Arm(3)
	w.Bump()
	w.Write(2, 0, counted(0, 300))
	w.Bump()
	w.Restart()
	w.Arm(1)
	w.Seal(1, []byte("seal"))
	w.Restart()
	w.Arm(0)
	w.Bump()
	w.Restart()
	w.Blocks()
	w.Counter()
	w.Dead()
	w.Copy().Bump()
	holdsTrace(t, w,
		api.Trace{Kind: api.DidWrite, At: 2, Slot: 1, Bytes: []byte("w")},
		api.Trace{Kind: api.DidSeal, At: 1, Bytes: counted(0, 400)},
		api.Trace{Kind: api.DidBump},
		api.Trace{Kind: api.DidRead, At: 2, Slot: 1, Bytes: padded([]byte("w"))},
		api.Trace{Kind: api.DidLook, At: 1, Bytes: counted(0, 400)},
		api.Trace{Kind: api.DidLook},
		api.Trace{Kind: api.DidRead},
		api.Trace{Kind: api.DidWrite, At: 1},
		api.Trace{Kind: api.DidSeal},
		api.Trace{Kind: api.DidBump},
		api.Trace{Kind: api.DidWrite, At: 2, Bytes: counted(0, 300)},
		api.Trace{Kind: api.DidSeal, At: 1, Bytes: []byte("seal")},
	)
	holdsTrace(t, w, w.Trace()...)
}

// busy is a world of two blocks of which all is other than of a new one: power for 3, two reads so far, lies of reads 3 and 4.
func busy() *world.World {
	w := world.New(2)
	w.Write(0, 0, counted(1, wide))
	w.Write(1, 1, counted(2, 20))
	w.Seal(0, counted(3, 10))
	w.Seal(1, counted(4, 30))
	w.Set(50)
	w.Bump()
	w.Read(0, 0)
	w.Look(1)
	w.Lie(3, []byte("three"))
	w.Lie(4, nil)
	w.Arm(3)
	return w
}

// holdsBusy finds that w is what busy made, and changes all of it.
func holdsBusy(t *testing.T, w *world.World) {
	t.Helper()
	if w.Blocks() != 2 || w.Counter() != 51 || w.Dead() || len(w.Trace()) != 7 {
		t.Errorf("it has %d blocks, and the number %d; %d things are traced", w.Blocks(), w.Counter(), len(w.Trace()))
	}
	holdsTrace(t, w, busy().Trace()...)
	holdsSlot(t, w, 0, 0, counted(1, wide))
	holdsSlot(t, w, 0, 0, []byte("three"))
	holdsSlot(t, w, 1, 1, nil)
	holdsSlot(t, w, 1, 1, padded(counted(2, 20)))
	holdsSlot(t, w, 0, 1, padded(nil))
	holdsSlot(t, w, 1, 0, padded(nil))
	holdsSeal(t, w, 0, counted(3, 10))
	holdsSeal(t, w, 1, counted(4, 30))
	if !w.Bump() || w.Seal(1, []byte("xyz")) || !w.Dead() {
		t.Error("power is for another number")
	}
	w.Restart()
	holdsSeal(t, w, 1, slices.Concat([]byte("xy"), counted(4, 30)[2:]))
	w.Set(0)
	w.Arm(500)
	for n := range 100 {
		w.Lie(n, []byte("changed"))
	}
	w.Seal(0, []byte("changed"))
	w.Write(0, 0, []byte("changed"))
	w.Write(1, 1, []byte("changed"))
}

// A copy is the same, and neither knows anything of the other.
func TestCopy(t *testing.T) {
	w := busy()
	first := w.Copy()
	second := first.Copy()
	holdsBusy(t, first)
	holdsBusy(t, w)
	third := second.Copy()
	holdsBusy(t, second)
	holdsBusy(t, third)
	if world.New(0).Copy().Blocks() != 0 || world.New(4096).Copy().Blocks() != 4096 {
		t.Error("a copy has another number of blocks")
	}
}

// Power that is lost, and what was there then, is lost in a copy too; each is restarted by itself.
func TestCopyOfLost(t *testing.T) {
	w := lost()
	other := w.Copy()
	if !other.Dead() || other.Bump() || other.Read(0, 1) != nil || other.Counter() != 0 {
		t.Error("a copy of what is lost is not")
	}
	other.Restart()
	if !w.Dead() || other.Dead() || other.Counter() != 7 {
		t.Error("a Restart of a copy is one of what it was copied of")
	}
	holdsSlot(t, other, 0, 1, padded([]byte("slot")))
	holdsSeal(t, other, 1, []byte("seal"))
	w.Restart()
	holdsSlot(t, w, 0, 1, padded([]byte("slot")))
	holdsSeal(t, w, 1, []byte("seal"))
	holdsTrace(t, other, w.Trace()...)
}

// What is handed in is neither changed nor kept, nor is the room behind it (R2).
func TestHandedIn(t *testing.T) {
	room := counted(0, 500)
	for _, n := range []int{5, wide, 400} {
		b := room[3 : 3+n]
		w := world.New(1)
		w.Write(0, 0, b)
		w.Seal(0, b)
		w.Lie(2, b)
		w.Arm(2)
		w.Seal(1, b)
		w.Restart()
		w.Arm(2)
		w.Write(0, 1, b)
		w.Restart()
		if !bytes.Equal(room, counted(0, 500)) {
			t.Fatal("what was handed in is changed")
		}
		was := slices.Clone(b)
		clear(room)
		holdsSlot(t, w, 0, 0, padded(was))
		holdsSeal(t, w, 0, was)
		holdsSeal(t, w, 0, was)
		holdsSeal(t, w, 1, was[:2])
		holdsSlot(t, w, 0, 1, padded(was[:2]))
		for _, x := range w.Trace()[:4] {
			if !bytes.Equal(x.Bytes, was) {
				t.Errorf("of %d bytes that were handed in %x is traced", n, x.Bytes)
			}
		}
		room = counted(0, 500)
	}
}

// scribble overwrites a list, and the room behind it.
func scribble(b []byte) {
	b = b[:cap(b)]
	for i := range b {
		b[i] = 0xee
	}
}

// What comes out is new memory, of each call, with its own room behind it (R2).
func TestNewMemory(t *testing.T) {
	w := busy()
	w.Restart()
	for n := range 20 {
		if n%2 == 0 {
			w.Lie(n, counted(n, 9))
		}
	}
	other := w.Copy()
	want := other.Trace()
	for range 2 {
		scribble(w.Read(0, 0))
		scribble(w.Look(1))
		scribble(w.Read(1, 1))
		scribble(w.Look(0))
		other.Read(0, 0)
		other.Look(1)
		other.Read(1, 1)
		other.Look(0)
		want = other.Trace()
		l := w.Trace()
		l = l[:cap(l)]
		for i := range l {
			scribble(l[i].Bytes)
			l[i] = api.Trace{Kind: 9}
		}
		holdsTrace(t, w, want...)
	}
	l := w.Trace()
	for i := range l {
		scribble(l[i].Bytes)
		if i+1 < len(l) && !same(l[i+1:], want[i+1:]) {
			t.Errorf("what is traced shares memory with what was traced as %d", i)
		}
	}
	for range 20 {
		w.Read(0, 0)
		other.Read(0, 0)
	}
	for i := range 2 {
		holdsSlot(t, w, i, i, other.Read(i, i))
		holdsSeal(t, w, i, other.Look(i))
	}
}

// Nothing, 0 and false are told of a nil World, and none of its calls panics.
func TestNilWorld(t *testing.T) {
	var w *world.World
	w.Lie(0, []byte("lie"))
	w.Lie(-1, nil)
	w.Arm(0)
	w.Set(8)
	for range 2 {
		if w.Blocks() != 0 || w.Read(0, 0) != nil || w.Look(0) != nil || w.Write(0, 0, []byte("w")) || w.Seal(0, []byte("s")) || w.Counter() != 0 || w.Bump() {
			t.Error("of a nil World something is told")
		}
		if w.Dead() || w.Trace() != nil || w.Copy() != nil {
			t.Error("of a nil World something is there")
		}
		w.Restart()
	}
}

// A World that New did not make has no blocks, and does not panic.
func TestWorldOfNoughts(t *testing.T) {
	var w world.World
	if w.Blocks() != 0 || w.Read(0, 0) != nil || w.Write(0, 0, nil) || w.Dead() || w.Copy().Blocks() != 0 {
		t.Error("a World of noughts has blocks, or no power")
	}
	w.Lie(0, []byte("lie"))
	if !w.Seal(1, []byte("seal")) || string(w.Look(1)) != "lie" || string(w.Look(1)) != "seal" || !w.Bump() || w.Counter() != 1 {
		t.Error("a World of noughts has no seals, or no counter")
	}
	w.Arm(0)
	if w.Bump() || !w.Dead() || len(w.Trace()) != 4 {
		t.Error("a World of noughts has power that lasts")
	}
	w.Restart()
}

// Two worlds know nothing of one another, also at one time.
func TestManyAtOnce(t *testing.T) {
	const many = 16
	var worlds [many]*world.World
	var all sync.WaitGroup
	for i := range many {
		all.Go(func() {
			w := world.New(i)
			w.Lie(i, counted(i, i))
			for n := range i {
				w.Write(n, 1, counted(n, i))
				w.Read(n, 1)
			}
			w.Seal(0, counted(0, i))
			w.Set(uint64(i))
			worlds[i] = w
		})
	}
	all.Wait()
	for i, w := range worlds {
		if w.Blocks() != i || w.Counter() != uint64(i) || len(w.Trace()) != 2*i+1 {
			t.Errorf("world %d has %d blocks, the number %d, and %d things were traced", i, w.Blocks(), w.Counter(), len(w.Trace()))
		}
		holdsSeal(t, w, 0, counted(i, i))
		holdsSeal(t, w, 0, counted(0, i))
		for n := range i {
			holdsSlot(t, w, n, 1, padded(counted(n, i)))
		}
	}
}
