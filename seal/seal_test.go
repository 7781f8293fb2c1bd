package seal_test

import (
	"bytes"
	"crypto/hmac"
	"crypto/sha256"
	"encoding/binary"
	"math"
	"math/rand"
	"slices"
	"sync"
	"testing"

	"sacristan/api"
	"sacristan/seal"
)

// usual is the key of most tests.
var usual = []byte("a key")

// far is places that no Seal has, and edges.
var far = []int{math.MinInt, math.MinInt + 1, -4096, -17, -16, -9, -8, -7, -1, 32768, 1 << 31, math.MaxInt - 7, math.MaxInt}

// random is n bytes of r.
func random(r *rand.Rand, n int) []byte {
	b := make([]byte, n)
	r.Read(b)
	return b
}

// right is a Seal of so many blocks, filled at random, that may be.
func right(r *rand.Rand, blocks int) api.Seal {
	x := api.Seal{Number: r.Uint64(), Blocks: blocks}
	for at := 0; at < blocks; at += 8 {
		x.Slots = append(x.Slots, byte(r.Intn(1<<min(8, blocks-at))))
	}
	for at := 0; at < blocks; at += 16 {
		x.Sums = append(x.Sums, api.Digest(random(r, 32)))
	}
	return x
}

// clone is x in memory of its own.
func clone(x api.Seal) api.Seal {
	x.Slots, x.Sums = slices.Clone(x.Slots), slices.Clone(x.Sums)
	return x
}

// same is what has to be told of two Seals.
func same(a api.Seal, b api.Seal) bool {
	return a.Number == b.Number && a.Blocks == b.Blocks && bytes.Equal(a.Slots, b.Slots) && slices.Equal(a.Sums, b.Sums)
}

// nothing is whether x has its zero value.
func nothing(x api.Seal) bool {
	return x.Number == 0 && x.Blocks == 0 && len(x.Slots) == 0 && len(x.Sums) == 0
}

// tagged is all pieces, and their tag as the library's own packages make it.
func tagged(key []byte, l ...[]byte) []byte {
	all := bytes.Join(l, nil)
	h := hmac.New(sha256.New, key)
	h.Write(all)
	return h.Sum(all)
}

// fields is all of a record but its tag, whether x may be or not.
func fields(x api.Seal) []byte {
	b := binary.BigEndian.AppendUint64([]byte("SEAL"), x.Number)
	b = binary.BigEndian.AppendUint32(b, uint32(x.Blocks))
	b = append(b, x.Slots...)
	for _, d := range x.Sums {
		b = append(b, d[:]...)
	}
	return b
}

// encode is a record that has to be there.
func encode(t *testing.T, key []byte, x api.Seal) []byte {
	t.Helper()
	b, e := seal.Encode(key, x)
	if e != api.OK {
		t.Fatalf("Encode of %v tells %d", x, e)
	}
	return b
}

// forged asks that b is not taken.
func forged(t *testing.T, key []byte, b []byte, what ...any) {
	t.Helper()
	if x, e := seal.Decode(key, b); e != api.ErrForged || !nothing(x) {
		t.Errorf("Decode of %v tells %v, %d", what, x, e)
	}
}

func TestParts(t *testing.T) {
	want := 0
	for blocks := range 5000 {
		if blocks%16 == 1 {
			want++
		}
		if got := seal.Parts(blocks); got != want {
			t.Errorf("Parts(%d) is %d, not %d", blocks, got, want)
		}
	}
}

func TestPartsAtTheEdges(t *testing.T) {
	for blocks, want := range map[int]int{-1: 0, -15: 0, -16: 0, -17: 0, -4096: 0, math.MinInt: 0, math.MinInt + 1: 0, math.MaxInt: math.MaxInt/16 + 1, math.MaxInt - 15: math.MaxInt / 16, math.MaxInt - 14: math.MaxInt/16 + 1, 1 << 30: 1 << 26} {
		if got := seal.Parts(blocks); got != want {
			t.Errorf("Parts(%d) is %d, not %d", blocks, got, want)
		}
	}
}

func TestRight(t *testing.T) {
	r := rand.New(rand.NewSource(1))
	for blocks := range api.MaxBlocks + 1 {
		if x := right(r, blocks); !seal.Right(x) {
			t.Errorf("Right of %d blocks is false", blocks)
		}
	}
}

// Whichever list of a Seal has one too few, or one too many, whatever it has.
func TestWhatIsNotRight(t *testing.T) {
	r := rand.New(rand.NewSource(2))
	for blocks := range 70 {
		x := right(r, blocks)
		wrong := []api.Seal{clone(x), clone(x), clone(x)}
		wrong[0].Slots = append(wrong[0].Slots, 0)
		wrong[1].Sums = append(wrong[1].Sums, api.Digest{})
		wrong[2].Slots, wrong[2].Sums = nil, append(wrong[2].Sums, api.Digest{})
		if blocks > 0 {
			y, z := clone(x), clone(x)
			y.Slots = y.Slots[1:]
			z.Sums = z.Sums[1:]
			wrong = append(wrong, y, z, api.Seal{Blocks: blocks}, api.Seal{Blocks: -blocks, Slots: x.Slots, Sums: x.Sums}, api.Seal{Slots: x.Slots, Sums: x.Sums})
		}
		for i, y := range wrong {
			if b, e := seal.Encode(usual, y); seal.Right(y) || len(b) != 0 || e != api.ErrArg {
				t.Errorf("%d blocks, %d: Right is %v, Encode %x, %d", blocks, i, seal.Right(y), b, e)
			}
		}
	}
}

// Bits of the last byte that no block has are noughts, each of them.
func TestFurtherBits(t *testing.T) {
	r := rand.New(rand.NewSource(3))
	for _, blocks := range []int{1, 2, 3, 4, 5, 6, 7, 9, 15, 16, 17, 18, 23, 4089, 4095} {
		for bit := range 8 {
			x := right(r, blocks)
			last := len(x.Slots) - 1
			x.Slots[last] |= 1 << bit
			want := last*8+bit < blocks
			if seal.Right(x) != want {
				t.Errorf("Right of %d blocks, and a bit %d, is %v", blocks, bit, !want)
			}
		}
	}
}

// As many lists as these blocks would have do not make them right.
func TestBlocksThatMayNotBe(t *testing.T) {
	for _, blocks := range []int{4097, 4098, 4104, 4112, 5000, 8192} {
		x := api.Seal{Blocks: blocks, Slots: make([]byte, (blocks+7)/8), Sums: make([]api.Digest, (blocks+15)/16)}
		if b, e := seal.Encode(usual, x); seal.Right(x) || len(b) != 0 || e != api.ErrArg {
			t.Errorf("%d blocks: Right is %v, Encode %d bytes, %d", blocks, seal.Right(x), len(b), e)
		}
	}
	for _, blocks := range slices.Concat(far, []int{1 << 32, 1<<32 + 1, -1 << 32}) {
		for _, x := range []api.Seal{{Blocks: blocks}, {Blocks: blocks, Slots: []byte{1}, Sums: []api.Digest{{}}}} {
			if b, e := seal.Encode(usual, x); seal.Right(x) || len(b) != 0 || e != api.ErrArg {
				t.Errorf("%d blocks: Right is %v, Encode %d bytes, %d", blocks, seal.Right(x), len(b), e)
			}
		}
	}
}

// Every Number may be, and every bit of a block, and all Sums.
func TestRightHasNoOtherBounds(t *testing.T) {
	full := api.Digest(bytes.Repeat([]byte{255}, 32))
	for _, n := range []uint64{0, 1, 1 << 63, math.MaxUint64} {
		for _, x := range []api.Seal{{Number: n}, {Number: n, Slots: []byte{}, Sums: []api.Digest{}}, {Number: n, Blocks: 8, Slots: []byte{255}, Sums: []api.Digest{full}}, {Number: n, Blocks: 7, Slots: []byte{127}, Sums: []api.Digest{{}}}} {
			if !seal.Right(x) {
				t.Errorf("Right of %v is false", x)
			}
		}
	}
}

func TestSlot(t *testing.T) {
	r := rand.New(rand.NewSource(4))
	for n := range 40 {
		x := api.Seal{Blocks: r.Intn(400), Slots: random(r, n)}
		for at := range 8*n + 40 {
			want := 0
			if at < 8*n && x.Slots[at/8]&(1<<(at%8)) != 0 {
				want = 1
			}
			if got := seal.Slot(x, at); got != want {
				t.Errorf("Slot(%x, %d) is %d", x.Slots, at, got)
			}
		}
	}
}

func TestSlotOfNone(t *testing.T) {
	full := bytes.Repeat([]byte{255}, 512)
	for _, at := range append(far, 4096, 4097) {
		for _, x := range []api.Seal{{}, {Blocks: 4096}, {Blocks: 4096, Slots: full}, {Blocks: math.MaxInt, Slots: full}} {
			if got := seal.Slot(x, at); got != 0 {
				t.Errorf("Slot(%d) of %d blocks is %d", at, x.Blocks, got)
			}
		}
	}
}

// Just the bit of that block is another one, and flipped again it is as it was.
func TestFlip(t *testing.T) {
	r := rand.New(rand.NewSource(5))
	for _, blocks := range []int{0, 1, 2, 7, 8, 9, 16, 17, 100, 4095, 4096} {
		x := right(r, blocks)
		for at := range blocks {
			y := seal.Flip(x, at)
			want := clone(x)
			want.Slots[at/8] ^= 1 << (at % 8)
			if !same(y, want) || !seal.Right(y) || seal.Slot(y, at) == seal.Slot(x, at) {
				t.Fatalf("Flip(%d) of %d blocks is %x, not %x", at, blocks, y.Slots, want.Slots)
			}
			if !same(seal.Flip(y, at), x) {
				t.Fatalf("Flip(%d) of %d blocks, twice, is not as it was", at, blocks)
			}
		}
		for _, at := range slices.Concat(far, []int{blocks, blocks + 1, blocks + 7, blocks + 8, 4096, 4097}) {
			if y := seal.Flip(x, at); !same(y, x) {
				t.Errorf("Flip(%d) of %d blocks is %v", at, blocks, y)
			}
		}
	}
}

// What is not Right is flipped where there is a byte, and a block.
func TestFlipOfWhatIsNotRight(t *testing.T) {
	d := []api.Digest{{1}, {2}, {3}}
	for i, c := range []struct {
		x    api.Seal
		at   int
		want []byte
	}{
		{api.Seal{Blocks: 100}, 0, nil},
		{api.Seal{Blocks: 100, Slots: []byte{1}, Sums: d}, 1, []byte{3}},
		{api.Seal{Blocks: 100, Slots: []byte{1}, Sums: d}, 7, []byte{129}},
		{api.Seal{Blocks: 100, Slots: []byte{1}, Sums: d}, 8, []byte{1}},
		{api.Seal{Blocks: 3, Slots: []byte{1, 2}, Sums: d}, 3, []byte{1, 2}},
		{api.Seal{Blocks: 3, Slots: []byte{1, 2}, Sums: d}, 2, []byte{5, 2}},
		{api.Seal{Blocks: 0, Slots: []byte{1, 2}}, 0, []byte{1, 2}},
		{api.Seal{Blocks: -5, Slots: []byte{1, 2}}, 0, []byte{1, 2}},
		{api.Seal{Blocks: math.MaxInt, Slots: []byte{1, 2}}, 15, []byte{1, 130}},
		{api.Seal{Blocks: math.MaxInt, Slots: []byte{1, 2}}, math.MaxInt - 1, []byte{1, 2}},
		{api.Seal{Blocks: 5000, Slots: make([]byte, 625)}, 4999, append(make([]byte, 624), 128)},
	} {
		want := clone(c.x)
		want.Slots = c.want
		if y := seal.Flip(c.x, c.at); !same(y, want) {
			t.Errorf("%d: Flip is %v", i, y)
		}
	}
}

// Whatever field differs, wherever: two Seals are not the same.
func TestSame(t *testing.T) {
	r := rand.New(rand.NewSource(6))
	for _, blocks := range []int{0, 1, 8, 17, 40} {
		x := right(r, blocks)
		others := []api.Seal{clone(x), clone(x), clone(x), clone(x), clone(x)}
		others[0].Number ^= 1 << 40
		others[1].Blocks++
		others[2].Blocks = -1
		others[3].Slots = append(others[3].Slots, 0)
		others[4].Sums = append(others[4].Sums, api.Digest{})
		for i := range x.Slots {
			y := clone(x)
			y.Slots[i] ^= 64
			others = append(others, y)
		}
		for i := range x.Sums {
			y, z := clone(x), clone(x)
			y.Sums[i][0] ^= 1
			z.Sums[i][31] ^= 128
			others = append(others, y, z)
		}
		if blocks > 0 {
			y, z := clone(x), clone(x)
			y.Slots, z.Sums = y.Slots[:len(y.Slots)-1], z.Sums[:len(z.Sums)-1]
			others = append(others, y, z)
		}
		if !seal.Same(x, clone(x)) || !seal.Same(x, x) {
			t.Errorf("%v is not the same as itself", x)
		}
		for i, y := range others {
			if seal.Same(x, y) || seal.Same(y, x) {
				t.Errorf("%d blocks, %d: %v is the same as %v", blocks, i, y, x)
			}
		}
	}
}

// A list that is nil is the same as one that is empty.
func TestNilAndEmpty(t *testing.T) {
	a, b := api.Seal{Number: 3}, api.Seal{Number: 3, Slots: []byte{}, Sums: []api.Digest{}}
	if !seal.Same(a, b) || !seal.Same(b, a) || !bytes.Equal(encode(t, nil, a), encode(t, []byte{}, b)) {
		t.Error("nil is not the same as empty")
	}
	for _, l := range [][]byte{nil, {}} {
		forged(t, usual, l, "nothing")
		if x, e := seal.Choose(usual, 0, l); e != api.ErrForged || !nothing(x) {
			t.Errorf("Choose of nothing is %v, %d", x, e)
		}
	}
}

func TestEncode(t *testing.T) {
	r := rand.New(rand.NewSource(7))
	for _, blocks := range []int{0, 1, 7, 8, 9, 15, 16, 17, 31, 32, 33, 255, 256, 257, 1000, 4095, 4096} {
		x, key := right(r, blocks), random(r, r.Intn(100))
		want := tagged(key, fields(x))
		if b := encode(t, key, x); !bytes.Equal(b, want) {
			t.Errorf("Encode of %d blocks is %x, not %x", blocks, b, want)
		}
	}
}

func TestEncodeOfNoughts(t *testing.T) {
	want := append([]byte("SEAL"), make([]byte, 12)...)
	if b := encode(t, nil, api.Seal{}); !bytes.Equal(b, tagged(nil, want)) {
		t.Errorf("Encode of noughts is %x", b)
	}
}

// There and back, for every number of blocks that may be.
func TestDecode(t *testing.T) {
	r := rand.New(rand.NewSource(8))
	for blocks := range api.MaxBlocks + 1 {
		if blocks > 300 && blocks%61 > 1 && blocks < 4080 {
			continue
		}
		x, key := right(r, blocks), random(r, blocks%90)
		if y, e := seal.Decode(key, encode(t, key, x)); e != api.OK || !same(x, y) {
			t.Fatalf("Decode of %d blocks tells %v, %d", blocks, y, e)
		}
	}
}

// Whatever bit of a record is another one, it is not taken; nor is a piece of it, nor more than it.
func TestDecodeOfAChangedRecord(t *testing.T) {
	r := rand.New(rand.NewSource(9))
	for _, blocks := range []int{0, 1, 17, 40} {
		b := encode(t, usual, right(r, blocks))
		for i := range b {
			for bit := range 8 {
				c := slices.Clone(b)
				c[i] ^= 1 << bit
				forged(t, usual, c, blocks, "blocks, changed at", i, bit)
			}
			forged(t, usual, b[:i], blocks, "blocks, cut to", i)
			forged(t, usual, b[i+1:], blocks, "blocks, cut from", i+1)
			forged(t, usual, slices.Delete(slices.Clone(b), i, i+1), blocks, "blocks, without", i)
			forged(t, usual, slices.Insert(slices.Clone(b), i, 0), blocks, "blocks, with a nought at", i)
		}
		for _, n := range []int{1, 2, 31, 32, 33, 64, 10000} {
			forged(t, usual, append(slices.Clone(b), make([]byte, n)...), blocks, "blocks, and noughts", n)
		}
		forged(t, usual, append(slices.Clone(b), b...), blocks, "blocks, twice")
	}
}

func TestDecodeByAnotherKey(t *testing.T) {
	long := bytes.Repeat([]byte("k"), 100)
	keys := [][]byte{nil, []byte("b"), []byte("a kex"), []byte("a ke"), []byte("a key "), []byte("A key"), long, long[:99]}
	x := right(rand.New(rand.NewSource(10)), 20)
	b := encode(t, usual, x)
	for i, key := range keys {
		forged(t, key, b, "another key", i)
		forged(t, usual, encode(t, key, x), "a record by another key", i)
	}
}

// Whatever has a tag by that key, but is no Seal that is Right, is not taken.
func TestDecodeOfWhatIsTaggedButWrong(t *testing.T) {
	r := rand.New(rand.NewSource(11))
	x := right(r, 17)
	b := fields(x)
	mark := func(s string) []byte { return tagged(usual, []byte(s), b[4:]) }
	for i, c := range [][]byte{
		mark("SEAM"), mark("seal"), mark("TEAL"), mark(""), mark("SEA"), mark("SEALS"),
		tagged(usual), tagged(usual, []byte("SEAL")), tagged(usual, b[:12]), tagged(usual, b[:15]), tagged(usual, b[:16]), tagged(usual, b[:19]),
		tagged(usual, b[:len(b)-1]), tagged(usual, b[:len(b)-32]), tagged(usual, b, []byte{0}), tagged(usual, b, make([]byte, 32)), tagged(usual, b, b),
		tagged(usual, b[:16], []byte{0}, b[16:]),
	} {
		forged(t, usual, c, "wrong form", i)
	}
	for bit := 1; bit < 8; bit++ {
		y := clone(x)
		y.Slots[2] |= 1 << bit
		forged(t, usual, tagged(usual, fields(y)), "a further bit", bit)
	}
	for _, blocks := range []int{4097, 4104, 4112, 8192} {
		y := api.Seal{Blocks: blocks, Slots: make([]byte, (blocks+7)/8), Sums: make([]api.Digest, (blocks+15)/16)}
		forged(t, usual, tagged(usual, fields(y)), "too many blocks", blocks)
	}
	for _, blocks := range []int{1, 8, 16, 25, 32, 33, 4096, 4097, 1<<31 - 1, 1 << 31, 1<<32 - 17, 1<<32 - 1} {
		y := clone(x)
		y.Blocks = blocks
		forged(t, usual, tagged(usual, fields(y)), "other blocks", blocks)
		forged(t, usual, tagged(usual, fields(api.Seal{Blocks: blocks})), "blocks alone", blocks)
	}
}

// A key's other tags are not taken for a seal's.
func TestDecodeOfAnotherTag(t *testing.T) {
	b := fields(right(rand.New(rand.NewSource(12)), 9))
	for _, tag := range [][]byte{nil, make([]byte, 32), tagged(usual)[:32], tagged(usual, b, b)[2*len(b):], tagged(b, usual)[len(usual):]} {
		forged(t, usual, slices.Concat(b, tag), "another tag")
	}
}

func TestDecodeOfAnything(t *testing.T) {
	r := rand.New(rand.NewSource(13))
	for n := range 600 {
		b := random(r, n)
		forged(t, usual, b, "random", n)
		forged(t, usual, append([]byte("SEAL"), b...), "random behind the mark", n)
	}
	forged(t, usual, make([]byte, 1<<20), "many noughts")
	forged(t, usual, append([]byte("SEAL\x00\x00\x00\x00\x00\x00\x00\x00\xff\xff\xff\xff"), make([]byte, 1<<20)...), "many blocks")
}

// at is a record of such a number.
func at(t *testing.T, n uint64, blocks int) []byte {
	t.Helper()
	x := right(rand.New(rand.NewSource(int64(n))), blocks)
	x.Number = n
	return encode(t, usual, x)
}

func TestChoose(t *testing.T) {
	const most = math.MaxUint64
	bad := append(at(t, 5, 3), 0)
	for i, c := range []struct {
		counter uint64
		l       [][]byte
		want    int
	}{
		{4, [][]byte{at(t, 4, 1), at(t, 5, 2)}, 1},
		{4, [][]byte{at(t, 5, 1), at(t, 4, 2)}, 0},
		{5, [][]byte{at(t, 4, 1), at(t, 5, 2)}, 1},
		{5, [][]byte{at(t, 5, 1), at(t, 4, 2)}, 0},
		{6, [][]byte{at(t, 4, 1), at(t, 5, 2)}, -1},
		{3, [][]byte{at(t, 4, 1), at(t, 5, 2)}, 0},
		{2, [][]byte{at(t, 4, 1), at(t, 5, 2)}, -1},
		{4, [][]byte{at(t, 4, 1), at(t, 4, 2)}, 0},
		{3, [][]byte{at(t, 4, 1), at(t, 4, 2)}, 0},
		{4, [][]byte{at(t, 4, 1), bad}, 0},
		{4, [][]byte{bad, at(t, 4, 1)}, 1},
		{4, [][]byte{bad, at(t, 4, 1), bad, at(t, 4, 2), at(t, 6, 2), at(t, 3, 2), at(t, 5, 3), at(t, 5, 4)}, 6},
		{4, [][]byte{nil, {}, at(t, 4, 0)}, 2},
		{4, [][]byte{bad, bad}, -1},
		{4, nil, -1},
		{0, [][]byte{at(t, 0, 1)}, 0},
		{0, [][]byte{at(t, 0, 1), at(t, 1, 1)}, 1},
		{0, [][]byte{at(t, most, 1)}, -1},
		{most, [][]byte{at(t, 0, 1)}, -1},
		{most, [][]byte{at(t, 0, 1), at(t, most, 2), at(t, most, 3)}, 1},
		{most, [][]byte{at(t, most-1, 1)}, -1},
		{most - 1, [][]byte{at(t, most-1, 1), at(t, most, 1)}, 1},
		{most - 1, [][]byte{at(t, 0, 1), at(t, most-1, 1)}, 1},
		{1 << 32, [][]byte{at(t, 0, 1), at(t, 1, 1)}, -1},
	} {
		x, e := seal.Choose(usual, c.counter, c.l...)
		if c.want < 0 {
			if e != api.ErrForged || !nothing(x) {
				t.Errorf("%d: Choose tells %v, %d", i, x, e)
			}
			continue
		}
		if want, _ := seal.Decode(usual, c.l[c.want]); e != api.OK || !same(x, want) {
			t.Errorf("%d: Choose tells %v, %d, not that of %d", i, x, e, c.want)
		}
	}
	if x, e := seal.Choose([]byte("another"), 4, at(t, 4, 1), at(t, 5, 1)); e != api.ErrForged || !nothing(x) {
		t.Errorf("Choose by another key tells %v, %d", x, e)
	}
}

// wanted is what has to be chosen, as the chapter tells it: one way through all for each of two numbers.
func wanted(counter uint64, l [][]byte) (api.Seal, api.Errno) {
	find := func(n uint64) (api.Seal, bool) {
		for _, b := range l {
			if x, e := seal.Decode(usual, b); e == api.OK && x.Number == n {
				return x, true
			}
		}
		return api.Seal{}, false
	}
	if x, ok := find(counter + 1); ok && counter != math.MaxUint64 {
		return x, api.OK
	}
	if x, ok := find(counter); ok {
		return x, api.OK
	}
	return api.Seal{}, api.ErrForged
}

func TestChooseOfMany(t *testing.T) {
	r := rand.New(rand.NewSource(14))
	var all [][]byte
	for blocks := range 4 {
		for _, n := range []uint64{0, 1, 2, 3, math.MaxUint64 - 1, math.MaxUint64} {
			b := at(t, n, blocks)
			all = append(all, b, b[:len(b)-1])
		}
	}
	for range 1500 {
		var l [][]byte
		for range r.Intn(6) {
			l = append(l, all[r.Intn(len(all))])
		}
		counter := uint64(r.Intn(6)) - 2
		x, e := seal.Choose(usual, counter, l...)
		if y, f := wanted(counter, l); e != f || !same(x, y) {
			t.Fatalf("Choose of %d, %x tells %v, %d, not %v, %d", counter, l, x, e, y, f)
		}
	}
}

// A seal that is torn at any byte, over an older one, is not taken: what was certified ahead of it is.
func TestTornSeals(t *testing.T) {
	for _, blocks := range []int{0, 1, 20, 40} {
		old, last, next := at(t, 6, blocks), at(t, 7, 20), at(t, 8, 20)
		certified, _ := seal.Decode(usual, last)
		about, _ := seal.Decode(usual, next)
		for n := range len(next) + 1 {
			torn := slices.Clone(next[:n])
			over := append(slices.Clone(next[:n]), old[min(n, len(old)):]...)
			want := certified
			if n == len(next) {
				want, over = about, torn
			}
			for i, l := range [][][]byte{{last, torn}, {torn, last}, {last, over}, {over, last}} {
				if x, e := seal.Choose(usual, 7, l...); e != api.OK || !same(x, want) {
					t.Errorf("torn at %d, %d: Choose tells %v, %d", n, i, x, e)
				}
			}
		}
	}
}

// What is handed in stays as it is, with the room behind it.
func TestNothingHandedInIsChanged(t *testing.T) {
	r := rand.New(rand.NewSource(15))
	roomy := func(b []byte) []byte { return append(slices.Clone(b), random(r, 50)...)[:len(b)] }
	x := right(r, 30)
	x.Slots, x.Sums = roomy(x.Slots), append(slices.Clone(x.Sums), make([]api.Digest, 5)...)[:len(x.Sums)]
	key, b := roomy(usual), roomy(encode(t, usual, x))
	l := [][]byte{roomy([]byte("no")), b, roomy(at(t, x.Number+1, 3))}
	look := func() []byte {
		var all []byte
		for _, c := range append([][]byte{key, b, x.Slots}, l...) {
			all = append(all, c[:cap(c)]...)
		}
		for _, d := range x.Sums[:cap(x.Sums)] {
			all = append(all, d[:]...)
		}
		return all
	}
	was, n, blocks := look(), x.Number, x.Blocks
	for range 2 {
		seal.Right(x)
		seal.Encode(key, x)
		seal.Decode(key, b)
		seal.Choose(key, n, l...)
		seal.Slot(x, 3)
		seal.Flip(x, 3)
		seal.Flip(x, 99)
		seal.Same(x, x)
	}
	if !bytes.Equal(look(), was) || x.Number != n || x.Blocks != blocks {
		t.Error("what was handed in is changed")
	}
}

// spoil changes all that a Seal's lists have, and all the room behind them.
func spoil(x api.Seal) {
	for i := range x.Slots[:cap(x.Slots)] {
		x.Slots[:cap(x.Slots)][i] ^= 255
	}
	for i := range x.Sums[:cap(x.Sums)] {
		x.Sums[:cap(x.Sums)][i][7] ^= 255
	}
}

// What comes out is new memory: whoever changes it changes nothing else.
func TestWhatComesOutIsNew(t *testing.T) {
	r := rand.New(rand.NewSource(16))
	for _, blocks := range []int{1, 8, 30, 300} {
		x := right(r, blocks)
		kept, b := clone(x), encode(t, usual, x)
		was := slices.Clone(b)
		c := encode(t, usual, x)
		clear(c[:cap(c)])
		decode := func() api.Seal { y, _ := seal.Decode(usual, b); return y }
		choose := func() api.Seal { y, _ := seal.Choose(usual, x.Number, b, b); return y }
		flip := func() api.Seal { return seal.Flip(seal.Flip(x, 0), 0) }
		beyond := func() api.Seal { return seal.Flip(x, blocks) }
		for i, f := range []func() api.Seal{decode, choose, flip, beyond} {
			y, z := f(), f()
			spoil(y)
			if !same(z, kept) || !same(f(), kept) || !same(x, kept) || !bytes.Equal(b, was) {
				t.Errorf("%d blocks, %d: what came out is somebody else's", blocks, i)
			}
		}
	}
}

// Lists that are empty, but have room, do not come out with that room.
func TestRoomOfEmptyLists(t *testing.T) {
	slots, sums := []byte{7, 7, 7}, []api.Digest{{7}, {7}}
	y := seal.Flip(api.Seal{Slots: slots[:0], Sums: sums[:0]}, 0)
	spoil(y)
	_, _ = append(y.Slots, 1), append(y.Sums, api.Digest{})
	if slots[0] != 7 || sums[0][0] != 7 {
		t.Error("room behind an empty list is handed out")
	}
}

func TestManyAtOneTime(t *testing.T) {
	x := right(rand.New(rand.NewSource(17)), 200)
	b := encode(t, usual, x)
	var all sync.WaitGroup
	for i := range 8 {
		all.Go(func() {
			for range 20 {
				y, e := seal.Choose(usual, x.Number, b[:i], b)
				if c, f := seal.Encode(usual, x); e != api.OK || f != api.OK || !same(x, y) || !bytes.Equal(b, c) || !same(seal.Flip(seal.Flip(x, i), i), x) {
					t.Error("others at one time make a difference")
				}
			}
		})
	}
	all.Wait()
}

// The examples of the chapter.
func TestExamples(t *testing.T) {
	if seal.Parts(17) != 2 || seal.Slot(api.Seal{}, 0) != 0 {
		t.Errorf("Parts(17) is %d, Slot of noughts %d", seal.Parts(17), seal.Slot(api.Seal{}, 0))
	}
}
