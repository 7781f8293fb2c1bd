package bits_test

import (
	"bytes"
	"math"
	"slices"
	"testing"

	"sacristan/api"
	"sacristan/bits"
)

// far is numbers that no row has a bit of.
var far = []int{math.MinInt, math.MinInt + 1, math.MinInt32, -65, -64, -9, -8, -7, -1, 1 << 20, math.MaxInt32, math.MaxInt - 64, math.MaxInt - 1, math.MaxInt}

// counts asks for a number.
func counts(t *testing.T, what string, got int, want int) {
	t.Helper()
	if got != want {
		t.Errorf("%s is %d, not %d", what, got, want)
	}
}

// finds asks that Some tells just those.
func finds(t *testing.T, b []byte, n int, from int, to int, want ...int) {
	t.Helper()
	if l, e := bits.Some(b, n, from, to); e != api.OK || !slices.Equal(l, want) {
		t.Errorf("Some of %x, %d of %d to %d, is %v, %d, not %v", b, n, from, to, l, e, want)
	}
}

// lacks asks that Some tells that there are not so many, and nothing else.
func lacks(t *testing.T, b []byte, n int, from int, to int) {
	t.Helper()
	if l, e := bits.Some(b, n, from, to); e != api.ErrSpace || len(l) != 0 {
		t.Errorf("Some of %x, %d of %d to %d, is %v, %d", b, n, from, to, l, e)
	}
}

// becomes asks for a row that is set.
func becomes(t *testing.T, b []byte, i int, taken bool, want ...byte) {
	t.Helper()
	if l := bits.Set(b, i, taken); !bytes.Equal(l, want) {
		t.Errorf("Set of %x, %d, %t, is %x, not %x", b, i, taken, l, want)
	}
}

// full is so many bytes of which each bit is taken.
func full(n int) []byte { return bytes.Repeat([]byte{0xff}, n) }

// The example of the chapter.
func TestExample(t *testing.T) {
	counts(t, "First", bits.First([]byte{0x07}, 0, 8), 3)
	counts(t, "Count", bits.Count([]byte{0x07}, 0, 8), 3)
}

func TestWide(t *testing.T) {
	for n, want := range map[int]int{math.MinInt: 0, -8: 0, -1: 0, 0: 0, 1: 1, 7: 1, 8: 1, 9: 2, 16: 2, 17: 3, 4096: 512, 4097: 513, math.MaxInt - 1: 1 << 60, math.MaxInt: 1 << 60} {
		counts(t, "Wide", bits.Wide(n), want)
	}
	for n := range 1000 {
		wide := bits.Wide(n)
		if 8*wide < n || 8*(wide-1) >= n && n > 0 {
			t.Errorf("%d bits have %d bytes", n, wide)
		}
	}
}

// The lowest bit of a byte is its first one.
func TestGet(t *testing.T) {
	for i := range 80 {
		b := make([]byte, 10)
		b[i/8] = 1 << (i % 8)
		for at := -20; at < 100; at++ {
			if bits.Get(b, at) != (at == i) {
				t.Errorf("of %x %d is %t", b, at, bits.Get(b, at))
			}
		}
	}
	for _, i := range far {
		if bits.Get(full(10), i) || bits.Get(nil, i) {
			t.Errorf("%d is taken", i)
		}
	}
	for n := range 10 {
		if bits.Get(full(n), 8*n) || bits.Get(full(n), -1) || n > 0 && !bits.Get(full(n), 8*n-1) {
			t.Errorf("of %d bytes the edges are told wrongly", n)
		}
	}
}

func TestSet(t *testing.T) {
	becomes(t, []byte{0, 0}, 0, true, 0x01, 0)
	becomes(t, []byte{0, 0}, 7, true, 0x80, 0)
	becomes(t, []byte{0, 0}, 8, true, 0, 0x01)
	becomes(t, []byte{0, 0}, 15, true, 0, 0x80)
	becomes(t, []byte{0xff, 0xff}, 0, false, 0xfe, 0xff)
	becomes(t, []byte{0xff, 0xff}, 15, false, 0xff, 0x7f)
	// What is so stays so.
	becomes(t, []byte{0x21}, 5, true, 0x21)
	becomes(t, []byte{0x21}, 4, false, 0x21)
	// And what is no bit makes no difference.
	for _, taken := range []bool{false, true} {
		for _, i := range append([]int{16, 17}, far...) {
			becomes(t, []byte{0x5a, 0xa5}, i, taken, 0x5a, 0xa5)
			becomes(t, nil, i, taken)
		}
		becomes(t, nil, 0, taken)
		becomes(t, []byte{}, 0, taken)
	}
}

// What is set is got, and nothing else changes.
func TestSetIsGot(t *testing.T) {
	for _, b := range [][]byte{make([]byte, 9), full(9), {0x55, 0xaa, 0, 0xff, 1, 0x80, 0x7e, 0x81, 0xc3}} {
		for i := range 72 {
			for _, taken := range []bool{false, true} {
				l := bits.Set(b, i, taken)
				for at := -1; at < 73; at++ {
					want := bits.Get(b, at)
					if at == i {
						want = taken
					}
					if bits.Get(l, at) != want {
						t.Fatalf("of %x %d is set to %t, and %d is %t", b, i, taken, at, bits.Get(l, at))
					}
				}
				if len(l) != len(b) {
					t.Fatalf("%d bytes become %d", len(b), len(l))
				}
			}
		}
	}
}

func TestFirst(t *testing.T) {
	b := []byte{0xff, 0xfb, 0xff, 0x7f}
	for _, x := range [][3]int{{0, 32, 10}, {10, 11, 10}, {0, 10, -1}, {0, 11, 10}, {11, 31, -1}, {11, 32, 31}, {31, 32, 31}, {31, 99, 31}, {32, 99, -1}, {-9, 32, 10}, {-9, 0, -1}, {-9, -3, -1}, {10, 10, -1}, {11, 10, -1}, {31, 3, -1}} {
		counts(t, "First", bits.First(b, x[0], x[1]), x[2])
	}
	for _, at := range far {
		for _, to := range far {
			want := -1
			if at < 0 && to > 0 {
				want = 10
			}
			counts(t, "First", bits.First(b, at, to), want)
			counts(t, "First", bits.First(nil, at, to), -1)
		}
		counts(t, "First", bits.First(full(20), 0, at), -1)
		counts(t, "First", bits.First(full(20), at, 160), -1)
	}
	counts(t, "First", bits.First(nil, 0, 1), -1)
	counts(t, "First", bits.First([]byte{}, 0, 8), -1)
	counts(t, "First", bits.First([]byte{0}, 0, math.MaxInt), 0)
	counts(t, "First", bits.First([]byte{0}, 7, math.MaxInt), 7)
	counts(t, "First", bits.First([]byte{0}, 8, math.MaxInt), -1)
}

// The one that is free is found wherever it is, and just where it is asked for.
func TestFirstOfOne(t *testing.T) {
	for n := range 20 {
		for i := range 8 * n {
			b := bits.Set(full(n), i, false)
			counts(t, "First", bits.First(b, 0, 8*n), i)
			counts(t, "First", bits.First(b, i, i+1), i)
			counts(t, "First", bits.First(b, math.MinInt, math.MaxInt), i)
			counts(t, "First", bits.First(b, 0, i), -1)
			counts(t, "First", bits.First(b, i+1, 8*n), -1)
			counts(t, "First", bits.First(b, i+1, math.MaxInt), -1)
			counts(t, "Count", bits.Count(b, 0, 8*n), 8*n-1)
			finds(t, b, 1, 0, 8*n, i)
			lacks(t, b, 2, 0, 8*n)
		}
	}
}

func TestSome(t *testing.T) {
	b := []byte{0xf0, 0x0f, 0xff, 0x7e}
	finds(t, b, 1, 0, 32, 0)
	finds(t, b, 4, 0, 32, 0, 1, 2, 3)
	finds(t, b, 6, 0, 32, 0, 1, 2, 3, 12, 13)
	finds(t, b, 10, 0, 32, 0, 1, 2, 3, 12, 13, 14, 15, 24, 31)
	lacks(t, b, 11, 0, 32)
	finds(t, b, 10, -50, 999, 0, 1, 2, 3, 12, 13, 14, 15, 24, 31)
	lacks(t, b, 11, -50, 999)
	finds(t, b, 3, 2, 13, 2, 3, 12)
	lacks(t, b, 4, 2, 13)
	finds(t, b, 1, 31, 32, 31)
	lacks(t, b, 1, 16, 24)
	lacks(t, b, 1, 32, 99)
	lacks(t, b, 1, 4, 4)
	lacks(t, b, 1, 4, 3)
	lacks(t, nil, 1, 0, 8)
	lacks(t, []byte{}, 1, math.MinInt, math.MaxInt)
}

// Of none there are always so many, and of fewer too.
func TestSomeOfNone(t *testing.T) {
	for _, b := range [][]byte{nil, {}, {0}, {0xff}, full(30)} {
		for _, n := range []int{0, -1, -2, -64, math.MinInt + 1, math.MinInt} {
			for _, x := range [][2]int{{0, 0}, {0, 8}, {8, 0}, {3, 999}, {math.MinInt, math.MaxInt}, {math.MaxInt, math.MinInt}} {
				finds(t, b, n, x[0], x[1])
			}
		}
	}
}

// More than there are of a row are told in no room at all.
func TestSomeOfTooMany(t *testing.T) {
	b := make([]byte, 30)
	for _, n := range []int{241, 1 << 20, math.MaxInt32, math.MaxInt - 1, math.MaxInt} {
		for _, to := range []int{0, 1, 240, 241, math.MaxInt} {
			lacks(t, b, n, 0, to)
			lacks(t, b, n, math.MinInt, to)
			lacks(t, b, n, to, math.MaxInt)
		}
	}
}

func TestCount(t *testing.T) {
	b := []byte{0xf0, 0x0f, 0xff, 0x7e}
	for _, x := range [][3]int{{0, 32, 22}, {0, 4, 0}, {0, 5, 1}, {4, 12, 8}, {4, 13, 8}, {3, 12, 8}, {16, 24, 8}, {23, 26, 2}, {31, 32, 0}, {30, 31, 1}, {30, 99, 1}, {32, 99, 0}, {-7, 99, 22}, {-7, 0, 0}, {-7, -1, 0}, {7, 7, 0}, {8, 7, 0}, {32, 0, 0}, {math.MinInt, math.MaxInt, 22}, {math.MaxInt, math.MinInt, 0}, {0, math.MaxInt, 22}, {math.MaxInt - 1, math.MaxInt, 0}, {math.MinInt, math.MinInt + 1, 0}} {
		counts(t, "Count", bits.Count(b, x[0], x[1]), x[2])
	}
	for n := range 20 {
		for from := range 8*n + 1 {
			for to := range 8*n + 1 {
				counts(t, "Count", bits.Count(full(n), from, to), max(to-from, 0))
				counts(t, "Count", bits.Count(make([]byte, n), from, to), 0)
			}
		}
	}
}

// A whole world's row, and a long one.
func TestLongRows(t *testing.T) {
	for _, n := range []int{512, 1 << 20} {
		b := full(n)
		b[0], b[n-1] = 0xfe, 0x7f
		counts(t, "Count", bits.Count(b, 0, 8*n), 8*n-2)
		counts(t, "First", bits.First(b, 1, 8*n), 8*n-1)
		finds(t, b, 2, 0, 8*n, 0, 8*n-1)
		l, e := bits.Some(make([]byte, n), 8*n, 0, 8*n)
		if e != api.OK || len(l) != 8*n || l[0] != 0 || l[8*n-1] != 8*n-1 {
			t.Errorf("Some tells %d, %d", len(l), e)
		}
	}
}

// What is handed in is not changed, what comes out is new.
func TestNothingIsShared(t *testing.T) {
	b := append(make([]byte, 0, 99), 0x5a, 0x00, 0xff)
	was := bytes.Clone(b[:99])
	for i := -2; i < 30; i++ {
		for _, taken := range []bool{false, true} {
			l := bits.Set(b, i, taken)
			if !bytes.Equal(b[:99], was) {
				t.Fatalf("Set of %d changes what it is given", i)
			}
			l = append(l, 1, 2, 3)
			for at := range l {
				l[at] ^= 0xff
			}
			if !bytes.Equal(b[:99], was) {
				t.Fatalf("what Set of %d tells is what it was given", i)
			}
		}
	}
	first, _ := bits.Some(b, 3, 0, 24)
	second, _ := bits.Some(b, 3, 0, 24)
	first[0] = 77
	first = append(first, 78)
	if !slices.Equal(second, []int{0, 2, 5}) || !bytes.Equal(b[:99], was) || len(first) != 4 {
		t.Error("two lists are one")
	}
}
