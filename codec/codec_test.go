package codec_test

import (
	"bytes"
	"math"
	"math/rand"
	"slices"
	"testing"

	"sacristan/api"
	"sacristan/codec"
)

// widths are those that may be asked for: the usual ones, the edges, and what nobody would ask for.
var widths = []int{math.MinInt, -9, -8, -1, 0, 1, 2, 3, 4, 5, 6, 7, 8, 9, 64, math.MaxInt}

// numbers are some of each length, and the greatest.
var numbers = []uint64{0, 1, 0x7f, 0x80, 0xff, 0x100, 258, 0xffff, 0x10000, 0x01020304, 1<<32 - 1, 1 << 32, 0x0102030405060708, 1 << 63, math.MaxUint64}

// counted is n bytes, none a nought, each other than the one ahead of it.
func counted(n int) []byte {
	b := make([]byte, n)
	for i := range b {
		b[i] = byte(i%251 + 1)
	}
	return b
}

// scribble overwrites a list, and the room behind it.
func scribble(b []byte) {
	b = b[:cap(b)]
	for i := range b {
		b[i] = 0xee
	}
}

func TestPut(t *testing.T) {
	for _, c := range []struct {
		n    uint64
		wide int
		want []byte
	}{
		{258, 3, []byte{0, 1, 2}},
		{0x0102030405060708, 8, []byte{1, 2, 3, 4, 5, 6, 7, 8}},
		{0x0102030405060708, 7, []byte{2, 3, 4, 5, 6, 7, 8}},
		{0x0102030405060708, 1, []byte{8}},
		{0, 2, []byte{0, 0}},
		{math.MaxUint64, 8, []byte{255, 255, 255, 255, 255, 255, 255, 255}},
		{0x1ff, 1, []byte{255}},
		{258, 0, nil},
		{258, -1, nil},
		{258, math.MinInt, nil},
		{258, 9, []byte{0, 0, 0, 0, 0, 0, 1, 2}},
		{0x0102030405060708, math.MaxInt, []byte{1, 2, 3, 4, 5, 6, 7, 8}},
	} {
		if got := codec.Put(c.n, c.wide); !bytes.Equal(got, c.want) {
			t.Errorf("Put(%#x, %d) is %x, not %x", c.n, c.wide, got, c.want)
		}
	}
}

func TestPutIsAsWideAsAskedFor(t *testing.T) {
	for _, n := range numbers {
		for _, w := range widths {
			if got := codec.Put(n, w); len(got) != min(max(w, 0), 8) {
				t.Errorf("Put(%#x, %d) has %d bytes", n, w, len(got))
			}
		}
	}
}

func TestGet(t *testing.T) {
	for _, c := range []struct {
		b    []byte
		want uint64
	}{
		{nil, 0},
		{[]byte{}, 0},
		{[]byte{0}, 0},
		{[]byte{200}, 200},
		{[]byte{0, 1, 2}, 258},
		{[]byte{1, 2, 3, 4, 5, 6, 7}, 0x01020304050607},
		{[]byte{1, 2, 3, 4, 5, 6, 7, 8}, 0x0102030405060708},
		{[]byte{255, 255, 255, 255, 255, 255, 255, 255}, math.MaxUint64},
		{[]byte{9, 1, 2, 3, 4, 5, 6, 7, 8}, 0x0102030405060708},
		{[]byte{9, 9, 0, 0, 0, 0, 0, 0, 1, 2}, 258},
		{append(counted(5000), 0, 0, 0, 0, 0, 0, 0, 7), 7},
	} {
		if got := codec.Get(c.b); got != c.want {
			t.Errorf("Get(%x) is %#x, not %#x", c.b, got, c.want)
		}
	}
}

func TestWhatWasPutIsGot(t *testing.T) {
	for _, n := range numbers {
		for w := range 9 {
			low := n
			if w < 8 {
				low = n % (1 << (8 * w))
			}
			if got := codec.Get(codec.Put(n, w)); got != low {
				t.Errorf("Get(Put(%#x, %d)) is %#x, not %#x", n, w, got, low)
			}
		}
	}
}

func TestCut(t *testing.T) {
	three := []byte{1, 2, 3}
	for _, c := range []struct {
		b    []byte
		wide []int
		want [][]byte
	}{
		{three, []int{1, 2}, [][]byte{{1}, {2, 3}}},
		{three, []int{3}, [][]byte{{1, 2, 3}}},
		{three, []int{1, 1, 1}, [][]byte{{1}, {2}, {3}}},
		{three, []int{0, 1, 0, 2, 0}, [][]byte{{}, {1}, {}, {2, 3}, {}}},
		{three, []int{-1, 3}, [][]byte{{}, {1, 2, 3}}},
		{three, []int{1, math.MinInt, 2, -5}, [][]byte{{1}, {}, {2, 3}, {}}},
		{nil, nil, nil},
		{nil, []int{0}, [][]byte{{}}},
		{nil, []int{-1, -1}, [][]byte{{}, {}}},
		{[]byte{}, []int{}, nil},
	} {
		got, e := codec.Cut(c.b, c.wide...)
		if e != api.OK || !slices.EqualFunc(got, c.want, bytes.Equal) {
			t.Errorf("Cut(%x, %d) is %x, %d, not %x", c.b, c.wide, got, e, c.want)
		}
	}
}

func TestCutTellsErrors(t *testing.T) {
	three := []byte{1, 2, 3}
	for _, c := range []struct {
		b    []byte
		wide []int
		want api.Errno
	}{
		{three, []int{4}, api.ErrShort},
		{three, []int{1, 3}, api.ErrShort},
		{three, []int{1, 2, 1}, api.ErrShort},
		{three, []int{3, 0, 1}, api.ErrShort},
		{three, []int{-1, 4}, api.ErrShort},
		{three, []int{5, -2}, api.ErrShort},
		{three, []int{2, 2, -1, 0}, api.ErrShort},
		{nil, []int{1}, api.ErrShort},
		{three, []int{math.MaxInt}, api.ErrShort},
		{three, []int{math.MaxInt, math.MaxInt, 5}, api.ErrShort},
		{three, []int{1, math.MaxInt, math.MaxInt, 4}, api.ErrShort},
		{three, []int{1, 1}, api.ErrForm},
		{three, []int{2}, api.ErrForm},
		{three, []int{0}, api.ErrForm},
		{three, []int{-3}, api.ErrForm},
		{three, []int{3, -3, -3}, api.OK},
		{three, []int{1, -1, 1}, api.ErrForm},
		{three, nil, api.ErrForm},
	} {
		got, e := codec.Cut(c.b, c.wide...)
		if e != c.want {
			t.Errorf("Cut(%x, %d) tells %d, not %d", c.b, c.wide, e, c.want)
		}
		if e != api.OK && len(got) != 0 {
			t.Errorf("Cut(%x, %d) tells %x beside the error %d", c.b, c.wide, got, e)
		}
	}
}

func TestJoin(t *testing.T) {
	for _, c := range []struct {
		l    [][]byte
		want []byte
	}{
		{nil, nil},
		{[][]byte{}, nil},
		{[][]byte{nil}, nil},
		{[][]byte{nil, {}, nil}, nil},
		{[][]byte{{1, 2}}, []byte{1, 2}},
		{[][]byte{{1}, nil, {2, 3}}, []byte{1, 2, 3}},
		{[][]byte{{3}, {2, 2}, {1}, {}}, []byte{3, 2, 2, 1}},
		{[][]byte{{0}, {0, 0}}, []byte{0, 0, 0}},
	} {
		if got := codec.Join(c.l...); !bytes.Equal(got, c.want) {
			t.Errorf("Join(%x) is %x, not %x", c.l, got, c.want)
		}
	}
}

func TestWhatWasJoinedIsCutAgain(t *testing.T) {
	r := rand.New(rand.NewSource(1))
	for range 500 {
		var fields [][]byte
		var wide []int
		for range r.Intn(12) {
			f := make([]byte, r.Intn(40))
			r.Read(f)
			fields = append(fields, f)
			wide = append(wide, len(f))
		}
		joined := codec.Join(fields...)
		got, e := codec.Cut(joined, wide...)
		if e != api.OK || !slices.EqualFunc(got, fields, bytes.Equal) {
			t.Fatalf("Cut(Join(%x), %d) is %x, %d", fields, wide, got, e)
		}
		if !bytes.Equal(codec.Join(got...), joined) {
			t.Fatalf("Join(Cut(%x, %d)) is another one", joined, wide)
		}
		if _, e := codec.Cut(append(joined, 0), wide...); e != api.ErrForm {
			t.Fatalf("one byte more tells %d", e)
		}
		if _, e := codec.Cut(joined, append(wide, 1)...); e != api.ErrShort {
			t.Fatalf("one byte too few tells %d", e)
		}
	}
}

func TestPad(t *testing.T) {
	for _, c := range []struct {
		b    []byte
		wide int
		want []byte
	}{
		{[]byte{1}, 3, []byte{1, 0, 0}},
		{[]byte{1, 2}, 3, []byte{1, 2, 0}},
		{[]byte{1, 2}, 2, []byte{1, 2}},
		{[]byte{1, 2}, 1, []byte{1, 2}},
		{[]byte{1, 2}, 0, []byte{1, 2}},
		{[]byte{1, 2}, -1, []byte{1, 2}},
		{[]byte{1, 2}, math.MinInt, []byte{1, 2}},
		{nil, 2, []byte{0, 0}},
		{nil, 0, nil},
		{nil, -7, nil},
		{counted(200), 256, append(counted(200), make([]byte, 56)...)},
	} {
		if got := codec.Pad(c.b, c.wide); !bytes.Equal(got, c.want) {
			t.Errorf("Pad(%x, %d) is %x, not %x", c.b, c.wide, got, c.want)
		}
	}
}

// What stands behind a list in its room is none of its bytes, so Pad has noughts there.
func TestPadLooksAtNoRoom(t *testing.T) {
	b := counted(8)
	if got := codec.Pad(b[:2], 5); !bytes.Equal(got, []byte{1, 2, 0, 0, 0}) {
		t.Errorf("Pad tells %x", got)
	}
}

func TestEqual(t *testing.T) {
	for _, c := range []struct {
		a, b []byte
		want bool
	}{
		{nil, nil, true},
		{nil, []byte{}, true},
		{[]byte{1, 2}, []byte{1, 2}, true},
		{[]byte{1}, []byte{2}, false},
		{[]byte{1}, nil, false},
		{[]byte{0}, nil, false},
		{[]byte{1, 2}, []byte{1, 2, 0}, false},
		{[]byte{1, 2}, []byte{2, 1}, false},
		{[]byte{1, 1}, []byte{0, 0}, false},
		{[]byte{0, 255}, []byte{255, 0}, false},
		{[]byte{128, 128}, []byte{0, 0}, false},
		{counted(300), counted(300), true},
		{counted(300), counted(299), false},
		{make([]byte, 256), nil, false},
		{make([]byte, 65536), nil, false},
		{make([]byte, 512), make([]byte, 256), false},
	} {
		if codec.Equal(c.a, c.b) != c.want || codec.Equal(c.b, c.a) != c.want {
			t.Errorf("Equal(%x, %x) is not %t", c.a, c.b, c.want)
		}
	}
}

// Each bit at each place makes a difference.
func TestEqualSeesEachBit(t *testing.T) {
	for _, n := range []int{1, 2, 7, 8, 9, 32, 33} {
		a := counted(n)
		for i := range n {
			for bit := range 8 {
				b := counted(n)
				b[i] ^= 1 << bit
				if codec.Equal(a, b) || codec.Equal(b, a) {
					t.Errorf("of %d bytes bit %d of byte %d makes no difference", n, bit, i)
				}
			}
		}
	}
}

// What is handed in stays, and what comes out shares no memory with it (R2).
func TestNothingIsShared(t *testing.T) {
	arg := counted(16)
	b := arg[2:10]
	fields, e := codec.Cut(b, 3, 0, 5)
	if e != api.OK {
		t.Fatal(e)
	}
	alone, _ := codec.Cut(b, 8)
	outs := append(fields, alone[0], codec.Join(b), codec.Join(b[:3], b[3:]), codec.Join(b, nil),
		codec.Pad(b, 0), codec.Pad(b, 8), codec.Pad(b, 12), codec.Put(258, 3), codec.Put(258, 3))
	codec.Get(b)
	codec.Equal(b, b)
	if !bytes.Equal(arg, counted(16)) {
		t.Fatalf("what was handed in is %x now", arg)
	}
	for i := range outs {
		was := slices.Clone(outs[i])
		rest := make([][]byte, len(outs))
		for k := range outs {
			rest[k] = slices.Clone(outs[k])
		}
		scribble(outs[i])
		if !bytes.Equal(arg, counted(16)) {
			t.Fatalf("list %d shares with what was handed in", i)
		}
		for k := range outs {
			if k != i && !bytes.Equal(outs[k], rest[k]) {
				t.Fatalf("lists %d and %d share", i, k)
			}
		}
		copy(outs[i], was)
	}
	scribble(arg)
	if want := [][]byte{{3, 4, 5}, {}, {6, 7, 8, 9, 10}}; !slices.EqualFunc(fields, want, bytes.Equal) {
		t.Errorf("what came out hangs on what was handed in: %x", fields)
	}
}

// A list of widths is not changed, and the list of fields has no room that another call uses.
func TestWidthsStay(t *testing.T) {
	wide := []int{-1, 1, 2, -7}
	one, _ := codec.Cut([]byte{1, 2, 3}, wide...)
	two, _ := codec.Cut([]byte{1, 2, 3}, wide...)
	if !slices.Equal(wide, []int{-1, 1, 2, -7}) {
		t.Errorf("the widths are %d now", wide)
	}
	one = append(one[:0], []byte{9}, []byte{9}, []byte{9}, []byte{9}, []byte{9})
	if len(one) != 5 || !slices.EqualFunc(two, [][]byte{{}, {1}, {2, 3}, {}}, bytes.Equal) {
		t.Errorf("another call's fields are %x now", two)
	}
}

// A list that is nil and one that is empty are the same thing (R6).
func TestNilIsEmpty(t *testing.T) {
	if codec.Get(nil) != codec.Get([]byte{}) || len(codec.Pad(nil, 0)) != len(codec.Pad([]byte{}, 0)) {
		t.Error("nil is another thing than empty")
	}
	if len(codec.Join(nil, nil)) != len(codec.Join([]byte{}, []byte{})) || !codec.Equal([]byte{}, nil) {
		t.Error("nil is another thing than empty")
	}
	for _, b := range [][]byte{nil, {}} {
		if l, e := codec.Cut(b, 0); e != api.OK || len(l) != 1 || len(l[0]) != 0 {
			t.Errorf("Cut of none tells %x, %d", l, e)
		}
	}
}

// Every call ends, and none panics, at any input (P1); and what it tells is told again.
func TestAnyInput(t *testing.T) {
	for n := range 12 {
		b := counted(n)
		for _, w := range widths {
			if w <= 1<<20 && !bytes.Equal(codec.Pad(b, w), codec.Pad(b, w)) {
				t.Errorf("Pad(%x, %d) is one thing, and another", b, w)
			}
			for _, v := range widths {
				one, e := codec.Cut(b, w, v)
				two, f := codec.Cut(b, w, v)
				if e != f || !slices.EqualFunc(one, two, bytes.Equal) {
					t.Errorf("Cut(%x, %d, %d) is one thing, and another", b, w, v)
				}
				checkCut(t, b, w, v, one, e)
			}
		}
	}
}

// checkCut holds what Cut told of two widths against what the lengths alone ask for.
func checkCut(t *testing.T, b []byte, w, v int, fields [][]byte, e api.Errno) {
	t.Helper()
	w, v = max(w, 0), max(v, 0)
	want := api.OK
	switch {
	case w > len(b) || v > len(b)-w:
		want = api.ErrShort
	case w+v < len(b):
		want = api.ErrForm
	}
	if e != want {
		t.Errorf("Cut(%x, %d, %d) tells %d, not %d", b, w, v, e, want)
	}
	if e == api.OK && (len(fields) != 2 || !bytes.Equal(fields[0], b[:w]) || !bytes.Equal(fields[1], b[w:])) {
		t.Errorf("Cut(%x, %d, %d) tells %x", b, w, v, fields)
	}
}
