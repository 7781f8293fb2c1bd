package bits

import (
	"math"
	"testing"
)

func TestBelow(t *testing.T) {
	for n, want := range map[int]uint64{math.MinInt: 0, -1: 0, 0: 0, 1: 1, 2: 3, 8: 0xff, 63: math.MaxUint64 >> 1, 64: math.MaxUint64, 65: math.MaxUint64, math.MaxInt: math.MaxUint64} {
		if below(n) != want {
			t.Errorf("below %d is %x, not %x", n, below(n), want)
		}
	}
}

func TestLoad(t *testing.T) {
	b := []byte{1, 2, 3, 4, 5, 6, 7, 8, 9}
	for n, want := range []uint64{0, 0x1, 0x201, 0x30201, 0x4030201, 0x504030201, 0x60504030201, 0x7060504030201, 0x807060504030201, 0x807060504030201} {
		if load(b[:n]) != want {
			t.Errorf("of %d bytes it is %x, not %x", n, load(b[:n]), want)
		}
	}
}

// Only words are gone through that have anything that is asked for, and that is a bit.
func TestWords(t *testing.T) {
	b := make([]byte, 17)
	for _, x := range [][4]int{{0, 136, 0, 3}, {0, 64, 0, 1}, {0, 65, 0, 2}, {63, 65, 0, 2}, {64, 65, 64, 1}, {63, 64, 0, 1}, {127, 129, 64, 2}, {128, 999, 128, 1}, {135, math.MaxInt, 128, 1}, {136, 999, 0, 0}, {5, 5, 0, 0}, {6, 5, 0, 0}, {-5, 0, 0, 0}, {math.MinInt, math.MaxInt, 0, 3}} {
		n := 0
		for w := range words(b, x[0], x[1]) {
			if w.first != x[2]+64*n || w.asked == 0 || w.taken != 0 {
				t.Errorf("of %d to %d word %d is %v", x[0], x[1], n, w)
			}
			n++
		}
		if n != x[3] {
			t.Errorf("of %d to %d there are %d words", x[0], x[1], n)
		}
	}
}

// Whoever has enough of it is told no more.
func TestLeft(t *testing.T) {
	b := make([]byte, 40)
	for n := 1; n < 320; n++ {
		told := 0
		for range free(b, 0, 320) {
			told++
			if told == n {
				break
			}
		}
		if told != n {
			t.Errorf("%d are told, not %d", told, n)
		}
	}
	for w := range words(b, 70, 320) {
		if w.first != 64 {
			t.Errorf("the first word begins at %d", w.first)
		}
		break
	}
}
