package audit_test

import (
	"bytes"
	"math"
	"math/rand"
	"reflect"
	"slices"
	"sync"
	"testing"

	"sacristan/api"
	"sacristan/audit"
)

// item is an Item of that text.
func item(at int, text string) api.Item { return api.Item{At: at, Bytes: []byte(text)} }

// did is something that was done, by that text.
func did(kind, at, slot int, text string) api.Trace {
	return api.Trace{Kind: kind, At: at, Slot: slot, Bytes: []byte(text)}
}

// bump is what a counter that rose is traced by.
var bump = api.Trace{Kind: api.DidBump}

// noughts are so many of them, as a text.
func noughts(n int) string { return string(make([]byte, n)) }

// sameItems is whether two lists are the same in order; what is nil and what is empty is the same thing.
func sameItems(a, b []api.Item) bool {
	return slices.EqualFunc(a, b, sameItem)
}

func sameItem(x, y api.Item) bool { return x.At == y.At && bytes.Equal(x.Bytes, y.Bytes) }

func sameTraces(a, b []api.Trace) bool {
	return slices.EqualFunc(a, b, func(x, y api.Trace) bool {
		return x.Kind == y.Kind && x.At == y.At && x.Slot == y.Slot && bytes.Equal(x.Bytes, y.Bytes)
	})
}

// mixed are n things of r, of all kinds and of some that are none; the same slots, and bytes, come again and again.
func mixed(r *rand.Rand, n int) []api.Trace {
	kinds := []int{api.DidRead, api.DidRead, api.DidWrite, api.DidWrite, api.DidLook, api.DidSeal, api.DidBump, 0, -1, 6}
	sizes := []int{0, 1, 15, 16, 17, 271, 272, 273, 300}
	l := make([]api.Trace, n)
	for i := range l {
		b := make([]byte, sizes[r.Intn(len(sizes))])
		if len(b) > 0 {
			b[r.Intn(len(b))] = byte(r.Intn(2))
		}
		l[i] = api.Trace{Kind: kinds[r.Intn(len(kinds))], At: r.Intn(3) - 1, Slot: r.Intn(3) - 1, Bytes: b}
	}
	return l
}

// heap are n Items of r, of which many are the same.
func heap(r *rand.Rand, n int) []api.Item {
	texts := []string{"", "\x00", "a", "ab", "b", "aa"}
	l := make([]api.Item, n)
	for i := range l {
		l[i] = item(r.Intn(3)-1, texts[r.Intn(len(texts))])
	}
	return l
}

// Of all that was done just reads, or just writes, in order; of each its place and its bytes, whatever its slot.
func TestReadsAndWrites(t *testing.T) {
	l := []api.Trace{
		did(api.DidLook, 9, 0, "look"),
		did(api.DidWrite, 3, 1, "w"),
		did(api.DidRead, 3, 1, "r"),
		bump,
		did(api.DidSeal, 9, 0, "seal"),
		did(api.DidRead, math.MinInt, 0, ""),
		did(api.DidRead, 3, 0, "r"),
		did(api.DidWrite, math.MaxInt, 0, noughts(300)),
		{Kind: api.DidWrite},
		did(0, 9, 0, "none"), did(6, 9, 0, "none"), did(-1, 9, 0, "none"),
		did(api.DidWrite, 3, 1, "w"),
		{Kind: api.DidRead, At: 7},
	}
	if got := audit.Reads(l); !sameItems(got, []api.Item{item(3, "r"), item(math.MinInt, ""), item(3, "r"), {At: 7}}) {
		t.Errorf("the reads are %v", got)
	}
	if got := audit.Writes(l); !sameItems(got, []api.Item{item(3, "w"), item(math.MaxInt, noughts(300)), {}, item(3, "w")}) {
		t.Errorf("the writes are %v", got)
	}
}

// Of nothing, and of what is neither read nor written, there is nothing.
func TestOfNothing(t *testing.T) {
	for _, l := range [][]api.Trace{nil, {}, {bump}, {did(api.DidLook, 0, 0, noughts(272)), did(api.DidSeal, 0, 0, noughts(272)), {}}} {
		if len(audit.Reads(l))+len(audit.Writes(l))+len(audit.Nonces(l)) != 0 {
			t.Errorf("of %v there is something", l)
		}
		if n := audit.Straight(l); n != -1 {
			t.Errorf("of %v the read %d is not straight", l, n)
		}
	}
}

// Each row ends with its bump, the last one has none.
func TestEpochs(t *testing.T) {
	r, w, s := did(api.DidRead, 1, 1, "r"), did(api.DidWrite, 2, 0, "w"), did(api.DidSeal, 1, 0, "s")
	other := did(6, 1, 1, "no bump")
	for _, c := range []struct {
		l    []api.Trace
		want [][]api.Trace
	}{
		{nil, [][]api.Trace{nil}},
		{[]api.Trace{}, [][]api.Trace{nil}},
		{[]api.Trace{r}, [][]api.Trace{{r}}},
		{[]api.Trace{bump}, [][]api.Trace{{bump}, nil}},
		{[]api.Trace{bump, bump}, [][]api.Trace{{bump}, {bump}, nil}},
		{[]api.Trace{r, bump}, [][]api.Trace{{r, bump}, nil}},
		{[]api.Trace{bump, r}, [][]api.Trace{{bump}, {r}}},
		{[]api.Trace{r, w, bump, bump, s, other, bump, w, w}, [][]api.Trace{{r, w, bump}, {bump}, {s, other, bump}, {w, w}}},
		{[]api.Trace{did(api.DidBump, 3, 1, "x"), {}, other}, [][]api.Trace{{did(api.DidBump, 3, 1, "x")}, {{}, other}}},
	} {
		if got := audit.Epochs(c.l); !slices.EqualFunc(got, c.want, sameTraces) {
			t.Errorf("of %v the rows are %v, not %v", c.l, got, c.want)
		}
	}
}

// Rows, one behind the other, are all that was done; there is one more than there are bumps.
func TestEpochsOfMany(t *testing.T) {
	r := rand.New(rand.NewSource(1))
	for n := range 200 {
		l := mixed(r, n)
		rows := audit.Epochs(l)
		bumps := 0
		for _, x := range l {
			if x.Kind == api.DidBump {
				bumps++
			}
		}
		if len(rows) != bumps+1 || !sameTraces(slices.Concat(rows...), l) {
			t.Fatalf("of %d things, %d bumps, there are %d rows", n, bumps, len(rows))
		}
		for i, row := range rows {
			if at := slices.IndexFunc(row, func(x api.Trace) bool { return x.Kind == api.DidBump }); at >= 0 != (i < bumps) || at >= 0 && at != len(row)-1 {
				t.Fatalf("row %d of %d has its bump at %d of %d", i, len(rows), at, len(row))
			}
		}
	}
}

// A read is straight, if it tells the last write of that slot, padded and cut.
func TestStraight(t *testing.T) {
	full := "head and body" + noughts(259)
	ff := string(bytes.Repeat([]byte{0xff}, 272))
	w := func(at, slot int, text string) api.Trace { return did(api.DidWrite, at, slot, text) }
	r := func(at, slot int, text string) api.Trace { return did(api.DidRead, at, slot, text) }
	for i, c := range []struct {
		l    []api.Trace
		want int
	}{
		// Where nothing was written there are noughts, as many as a slot has.
		{[]api.Trace{r(0, 0, noughts(272))}, -1},
		{[]api.Trace{r(-5, 9, noughts(272))}, -1},
		{[]api.Trace{r(0, 0, noughts(271))}, 0},
		{[]api.Trace{r(0, 0, noughts(273))}, 0},
		{[]api.Trace{r(0, 0, "")}, 0},
		{[]api.Trace{{Kind: api.DidRead}}, 0},
		{[]api.Trace{r(0, 0, noughts(271)+"\x01")}, 0},
		{[]api.Trace{r(0, 0, "\x01"+noughts(271))}, 0},
		// What was written is padded and cut; what was read is neither.
		{[]api.Trace{w(0, 0, "head and body"), r(0, 0, full)}, -1},
		{[]api.Trace{w(0, 0, "head and body"), r(0, 0, "head and body")}, 1},
		{[]api.Trace{w(0, 0, ff), r(0, 0, ff)}, -1},
		{[]api.Trace{w(0, 0, ff[:271]), r(0, 0, ff[:271]+"\x00")}, -1},
		{[]api.Trace{w(0, 0, ff[:271]), r(0, 0, ff)}, 1},
		{[]api.Trace{w(0, 0, ff[:271]), r(0, 0, ff[:271])}, 1},
		{[]api.Trace{w(0, 0, ff+"x"), r(0, 0, ff)}, -1},
		{[]api.Trace{w(0, 0, ff+"x"), r(0, 0, ff+"x")}, 1},
		{[]api.Trace{w(0, 0, ff), r(0, 0, ff+"\x00")}, 1},
		{[]api.Trace{w(0, 0, ""), r(0, 0, noughts(272))}, -1},
		{[]api.Trace{w(0, 0, ""), r(0, 0, "")}, 1},
		{[]api.Trace{{Kind: api.DidWrite}, r(0, 0, noughts(272))}, -1},
		// The last write ahead of it, of the same block and slot: no other one, and none behind it.
		{[]api.Trace{w(0, 0, ff), w(0, 0, "head and body"), r(0, 0, full)}, -1},
		{[]api.Trace{w(0, 0, ff), w(0, 0, "head and body"), r(0, 0, ff)}, 2},
		{[]api.Trace{w(0, 0, ff), w(0, 0, ""), r(0, 0, ff)}, 2},
		{[]api.Trace{w(0, 0, ff), w(0, 1, ""), r(0, 0, ff)}, -1},
		{[]api.Trace{w(0, 1, ff), r(0, 0, ff)}, 1},
		{[]api.Trace{w(0, 0, ff), w(1, 0, ""), r(0, 0, ff)}, -1},
		{[]api.Trace{w(1, 0, ff), r(0, 1, ff)}, 1},
		{[]api.Trace{w(-1, 0, ff), r(1, 0, ff)}, 1},
		{[]api.Trace{w(-1, -1, ff), r(-1, -1, ff)}, -1},
		{[]api.Trace{w(0, 2, ff), r(1, 0, noughts(272))}, -1},
		{[]api.Trace{r(0, 0, ff), w(0, 0, ff)}, 0},
		{[]api.Trace{r(0, 0, noughts(272)), w(0, 0, ff), r(0, 0, ff), w(0, 0, ""), r(0, 0, noughts(272))}, -1},
		// A bump makes no difference; what is done to seals is no matter of slots, nor is what is of no kind.
		{[]api.Trace{w(0, 0, ff), bump, r(0, 0, ff)}, -1},
		{[]api.Trace{w(0, 0, ff), bump, r(0, 0, noughts(272))}, 2},
		{[]api.Trace{w(0, 0, ff), did(api.DidSeal, 0, 0, "s"), r(0, 0, ff)}, -1},
		{[]api.Trace{did(api.DidSeal, 0, 0, ff), did(api.DidLook, 0, 0, "l"), r(0, 0, noughts(272))}, -1},
		{[]api.Trace{w(0, 0, ff), did(0, 0, 0, "x"), did(6, 0, 0, "x"), bump, did(api.DidBump, 0, 0, "x"), r(0, 0, ff)}, -1},
		// The first one of several; a read changes nothing.
		{[]api.Trace{bump, w(0, 0, ff), r(0, 0, ff), r(0, 0, "lie"), r(0, 0, "lie"), r(0, 0, ff)}, 3},
		{[]api.Trace{r(2, 0, noughts(272)), r(1, 0, "lie"), r(0, 0, "lie")}, 1},
	} {
		if got := audit.Straight(c.l); got != c.want {
			t.Errorf("of the case %d the read %d is not straight, and not %d", i, got, c.want)
		}
	}
}

// plainStraight goes back from each read to the write that it has to tell.
func plainStraight(l []api.Trace) int {
	for i, x := range l {
		if x.Kind != api.DidRead {
			continue
		}
		var want [272]byte
		for k := i - 1; k >= 0; k-- {
			if l[k].Kind == api.DidWrite && l[k].At == x.At && l[k].Slot == x.Slot {
				copy(want[:], l[k].Bytes)
				break
			}
		}
		if !bytes.Equal(want[:], x.Bytes) {
			return i
		}
	}
	return -1
}

// The same as a plain way to go back from each read.
func TestStraightOfMany(t *testing.T) {
	r := rand.New(rand.NewSource(2))
	told := map[int]int{}
	for n := range 3000 {
		l := mixed(r, n%30)
		for i := range l {
			if l[i].Kind == api.DidRead && r.Intn(8) > 0 {
				l[i].Bytes = make([]byte, 272)
				for k := i - 1; k >= 0; k-- {
					if l[k].Kind == api.DidWrite && l[k].At == l[i].At && l[k].Slot == l[i].Slot {
						copy(l[i].Bytes, l[k].Bytes)
						break
					}
				}
			}
		}
		got, want := audit.Straight(l), plainStraight(l)
		if got != want {
			t.Fatalf("the read %d is not straight, and not %d", got, want)
		}
		told[got]++
	}
	if told[-1] < 500 || len(told) < 15 {
		t.Errorf("what is told is always the same: %v", told)
	}
}

// As many as there are in b are gone, the first ones; what is left stays in order.
func TestMinus(t *testing.T) {
	a, b := item(1, "a"), item(1, "b")
	for _, c := range []struct{ a, b, want []api.Item }{
		{[]api.Item{a, b, a}, []api.Item{a}, []api.Item{b, a}},
		{nil, nil, nil},
		{nil, []api.Item{a}, nil},
		{[]api.Item{a, b}, nil, []api.Item{a, b}},
		{[]api.Item{a, b}, []api.Item{}, []api.Item{a, b}},
		{[]api.Item{a, b, a}, []api.Item{a, a}, []api.Item{b}},
		{[]api.Item{a, b, a}, []api.Item{a, a, a}, []api.Item{b}},
		{[]api.Item{a, b, a}, []api.Item{a, b, a}, nil},
		{[]api.Item{b, a, b, a, b, a}, []api.Item{b, a, b}, []api.Item{a, b, a}},
		{[]api.Item{a, a, a}, []api.Item{b, a}, []api.Item{a, a}},
		// Another place, or other bytes, are another Item.
		{[]api.Item{a}, []api.Item{item(2, "a"), item(-1, "a"), item(1, "aa"), item(1, ""), item(1, "a\x00"), item(1, "A")}, []api.Item{a}},
		{[]api.Item{item(1, "1a"), item(11, "a")}, []api.Item{item(11, "a")}, []api.Item{item(1, "1a")}},
		{[]api.Item{item(0, "\xff"), item(0, "\xfe")}, []api.Item{item(0, "\xfe")}, []api.Item{item(0, "\xff")}},
		// No bytes are no bytes, nil or not.
		{[]api.Item{{At: 3}, {At: 3, Bytes: []byte{}}, {At: 3}}, []api.Item{{At: 3, Bytes: []byte{}}, {At: 3}}, []api.Item{{At: 3}}},
	} {
		if got := audit.Minus(c.a, c.b); !sameItems(got, c.want) {
			t.Errorf("%v without %v is %v, not %v", c.a, c.b, got, c.want)
		}
	}
}

// plainMinus strikes, of each Item of b, the first one of a that is the same.
func plainMinus(a, b []api.Item) []api.Item {
	l := slices.Clone(a)
	for _, x := range b {
		if i := slices.IndexFunc(l, func(y api.Item) bool { return sameItem(x, y) }); i >= 0 {
			l = slices.Delete(l, i, i+1)
		}
	}
	return l
}

// The same as a plain way to strike them one by one; heaps are the same, if nothing is left of either.
func TestHeapsOfMany(t *testing.T) {
	r := rand.New(rand.NewSource(3))
	same, other := 0, 0
	for n := range 4000 {
		a, b := heap(r, n%20), heap(r, r.Intn(20))
		if n%3 == 0 {
			b = slices.Clone(a)
			r.Shuffle(len(b), func(i, k int) { b[i], b[k] = b[k], b[i] })
		}
		if n%9 == 0 && len(b) > 0 {
			b[r.Intn(len(b))] = heap(r, 1)[0]
		}
		if got, want := audit.Minus(a, b), plainMinus(a, b); !sameItems(got, want) {
			t.Fatalf("%v without %v is %v, not %v", a, b, got, want)
		}
		want := len(plainMinus(a, b)) == 0 && len(plainMinus(b, a)) == 0
		if audit.Same(a, b) != want || audit.Same(b, a) != want {
			t.Fatalf("%v and %v: the same is %v, not %v", a, b, !want, want)
		}
		if audit.Collision([]byte("key"), a, b) {
			t.Fatalf("%v and %v break sums", a, b)
		}
		if want {
			same++
		} else {
			other++
		}
	}
	if same < 500 || other < 500 {
		t.Errorf("%d heaps are the same, %d are not", same, other)
	}
}

// Heaps are the same in whatever order, but with as many of each.
func TestSame(t *testing.T) {
	a, b := item(1, "a"), item(1, "b")
	for _, c := range []struct {
		a, b []api.Item
		want bool
	}{
		{nil, nil, true},
		{nil, []api.Item{}, true},
		{nil, []api.Item{{}}, false},
		{[]api.Item{{}}, []api.Item{{Bytes: []byte{}}}, true},
		{[]api.Item{a, b}, []api.Item{b, a}, true},
		{[]api.Item{a, a, b}, []api.Item{a, b, a}, true},
		{[]api.Item{a, a, b}, []api.Item{a, b, b}, false},
		{[]api.Item{a, b, b}, []api.Item{a, a, b}, false},
		{[]api.Item{a, a}, []api.Item{a}, false},
		{[]api.Item{a}, []api.Item{a, a}, false},
		{[]api.Item{a}, []api.Item{a, {}}, false},
		{[]api.Item{a}, []api.Item{item(2, "a")}, false},
		{[]api.Item{a}, []api.Item{b}, false},
		{[]api.Item{item(1, "ab"), item(2, "")}, []api.Item{item(1, "a"), item(2, "b")}, false},
		{[]api.Item{item(1, "a"), item(2, "b")}, []api.Item{item(1, "b"), item(2, "a")}, false},
		{[]api.Item{item(0, "a")}, []api.Item{item(0, "a\x00")}, false},
		{[]api.Item{item(math.MinInt, "")}, []api.Item{item(math.MaxInt, "")}, false},
	} {
		if audit.Same(c.a, c.b) != c.want || audit.Same(c.b, c.a) != c.want {
			t.Errorf("%v and %v: the same is %v", c.a, c.b, !c.want)
		}
	}
}

// A head is told of each write that has a whole block, or more.
func TestNonces(t *testing.T) {
	head := "0123456789abcdef"
	l := []api.Trace{
		did(api.DidRead, 0, 0, "a read is no write"+noughts(272)),
		did(api.DidWrite, 0, 0, head+noughts(255)),
		did(api.DidWrite, 0, 0, head+noughts(256)),
		did(api.DidSeal, 0, 0, "a seal is no block"+noughts(272)),
		did(api.DidWrite, -1, 7, "fedcba9876543210"+noughts(257)),
		bump,
		did(api.DidWrite, 0, 0, head),
		{Kind: api.DidWrite},
		did(api.DidLook, 0, 0, noughts(272)), did(0, 0, 0, noughts(272)), did(6, 0, 0, noughts(272)),
		did(api.DidWrite, 1, 1, noughts(300)),
		did(api.DidWrite, 0, 0, head+"and another body"+noughts(240)),
	}
	want := []api.Nonce{api.Nonce([]byte(head)), api.Nonce([]byte("fedcba9876543210")), {}, api.Nonce([]byte(head))}
	if got := audit.Nonces(l); !slices.Equal(got, want) {
		t.Errorf("the heads are %x, not %x", got, want)
	}
}

// What is handed in is not changed (R2).
func TestNothingIsChanged(t *testing.T) {
	fresh := func() ([]api.Trace, []api.Item, []api.Item) {
		r := rand.New(rand.NewSource(4))
		return mixed(r, 60), heap(r, 40), heap(r, 30)
	}
	l, a, b := fresh()
	key := []byte("key")
	audit.Reads(l)
	audit.Writes(l)
	audit.Epochs(l)
	audit.Straight(l)
	audit.Nonces(l)
	audit.Minus(a, b)
	audit.Same(a, b)
	audit.Same(a[:30], b)
	audit.Collision(key, a, b)
	wantL, wantA, wantB := fresh()
	if !reflect.DeepEqual(l, wantL) || !reflect.DeepEqual(a, wantA) || !reflect.DeepEqual(b, wantB) || string(key) != "key" {
		t.Error("what was handed in is changed")
	}
}

// scribble changes all that a row has, its bytes too, and the room behind them.
func scribble(l []api.Trace) {
	for i := range l {
		full := l[i].Bytes[:cap(l[i].Bytes)]
		for k := range full {
			full[k] ^= 0x55
		}
		l[i].Kind, l[i].At = -9, -9
	}
	clear(l[len(l):cap(l)])
}

// Rows share no memory: neither with what was handed in, nor with one another, nor with those of another call (R2).
func TestRowsAreNewMemory(t *testing.T) {
	fresh := func() []api.Trace { return mixed(rand.New(rand.NewSource(5)), 80) }
	l := fresh()
	first, second := audit.Epochs(l), audit.Epochs(l)
	for i := range first {
		scribble(first[i])
		if !sameTraces(slices.Concat(second...), fresh()) || !sameTraces(l, fresh()) || !sameTraces(slices.Concat(first[i+1:]...), slices.Concat(second[i+1:]...)) {
			t.Fatalf("row %d shares something", i)
		}
	}
	scribble(l)
	if !sameTraces(slices.Concat(second...), fresh()) {
		t.Error("what was handed in is kept")
	}
}

// Items share no memory either, nor do the bytes of two that are the same (R2).
func TestItemsAreNewMemory(t *testing.T) {
	shared := []byte("shared")
	things := make([]api.Trace, 4, 8)
	heap := make([]api.Item, 4, 8)
	for i := range 4 {
		things[i] = api.Trace{Kind: 1 + i%2, At: i, Bytes: shared}
		heap[i] = api.Item{At: i, Bytes: shared}
	}
	for name, tell := range map[string]func() []api.Item{
		"Reads":  func() []api.Item { return audit.Reads(things) },
		"Writes": func() []api.Item { return audit.Writes(things) },
		"Minus":  func() []api.Item { return audit.Minus(heap, heap[:1]) },
		"whole":  func() []api.Item { return audit.Minus(heap, nil) },
	} {
		l, other := tell(), tell()
		for i := range l {
			copy(l[i].Bytes[:cap(l[i].Bytes)], bytes.Repeat([]byte{'x'}, cap(l[i].Bytes)))
			l[i].At = -9
			for _, x := range slices.Concat(l[i+1:], other, heap) {
				if x.At == -9 || string(x.Bytes) != "shared" {
					t.Fatalf("%s: Item %d shares something", name, i)
				}
			}
		}
		_ = append(l, api.Item{At: -9})
		if len(other) == 0 || heap[3].At != 3 || string(shared) != "shared" || heap[:8][4].At != 0 {
			t.Fatalf("%s shares room", name)
		}
	}
	l := audit.Nonces([]api.Trace{did(api.DidWrite, 0, 0, noughts(272))})
	l[0][0] = 1
	if audit.Nonces([]api.Trace{did(api.DidWrite, 0, 0, noughts(272))})[0] != (api.Nonce{}) {
		t.Error("heads are kept")
	}
}

// Nothing is kept from call to call: many at one time know nothing of one another.
func TestManyAtOnce(t *testing.T) {
	r := rand.New(rand.NewSource(6))
	l := mixed(r, 300)
	a, b := heap(r, 100), heap(r, 100)
	rows, straight, left := audit.Epochs(l), audit.Straight(l), audit.Minus(a, b)
	var all sync.WaitGroup
	for range 16 {
		all.Go(func() {
			if !slices.EqualFunc(audit.Epochs(l), rows, sameTraces) || audit.Straight(l) != straight || !sameItems(audit.Minus(a, b), left) {
				t.Error("at one time another thing is told")
			}
		})
	}
	all.Wait()
}

// So many that a way which goes through all of them for each one would not end.
func TestOfVeryMany(t *testing.T) {
	const many = 200000
	l := make([]api.Trace, many)
	a, b := make([]api.Item, many), make([]api.Item, many)
	for i := range l {
		l[i] = api.Trace{Kind: api.DidWrite + 3*(i%2), At: i, Bytes: []byte{byte(i)}}
		a[i] = api.Item{At: i, Bytes: []byte{1}}
		b[many-1-i] = a[i]
	}
	if n := len(audit.Epochs(l)); n != many/2+1 {
		t.Errorf("there are %d rows", n)
	}
	if n := audit.Straight(l); n != -1 {
		t.Errorf("the read %d is not straight", n)
	}
	if !audit.Same(a, b) || len(audit.Minus(a, b)) != 0 || len(audit.Minus(a, b[1:])) != 1 {
		t.Error("heaps of very many are not the same")
	}
}
