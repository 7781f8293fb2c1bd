package bits

import (
	"iter"
	"math/bits"
)

// wide is how many bits a word has.
const wide = 64

// word is bits that stand side by side: the number of the first, which of them are asked for, and which are taken.
type word struct {
	first int
	asked uint64
	taken uint64
}

// full is which of those that are asked for are taken.
func (w word) full() uint64 { return w.asked & w.taken }

// free is which of those that are asked for are not.
func (w word) free() uint64 { return w.asked &^ w.taken }

// has tells whether there is such a bit.
func has(b []byte, i int) bool {
	return i >= 0 && i/8 < len(b)
}

// bit is what i is in its byte.
func bit(i int) byte {
	return 1 << (i % 8)
}

// clip cuts away what is no bit: of a row that has none nothing is left.
func clip(b []byte, from int, to int) (int, int) {
	from = max(from, 0)
	if to > 0 && !has(b, to) {
		to = 8 * len(b)
	}
	return from, to
}

// words goes through those words that have any of from to to - 1, rising.
func words(b []byte, from int, to int) iter.Seq[word] {
	return func(yield func(word) bool) {
		from, to := clip(b, from, to)
		if from >= to {
			return
		}
		for k := from / wide; k <= (to-1)/wide; k++ {
			first := k * wide
			if !yield(word{first, below(to-first) &^ below(from-first), load(b[k*wide/8:])}) {
				return
			}
		}
	}
}

// below is a word of which the first n bits are 1: none, or all, where n is outside of it.
func below(n int) uint64 {
	// A shift by all of a word leaves noughts.
	return ^(^uint64(0) << min(max(n, 0), wide))
}

// load is the word that b begins with, the lowest byte first; what b has not is not taken.
func load(b []byte) uint64 {
	w := uint64(0)
	for i, x := range b[:min(len(b), wide/8)] {
		w |= uint64(x) << (8 * i)
	}
	return w
}

// free goes through what of from to to - 1 is not taken, rising.
func free(b []byte, from int, to int) iter.Seq[int] {
	return func(yield func(int) bool) {
	telling:
		for w := range words(b, from, to) {
			for rest := w.free(); rest != 0; rest &= rest - 1 {
				if !yield(w.first + bits.TrailingZeros64(rest)) {
					break telling
				}
			}
		}
	}
}

// count is how many there are of what is picked from each word.
func count(b []byte, from int, to int, pick func(word) uint64) int {
	n := 0
	for w := range words(b, from, to) {
		n += bits.OnesCount64(pick(w))
	}
	return n
}
