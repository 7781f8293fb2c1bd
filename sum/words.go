package sum

import (
	"math/bits"

	"sacristan/api"
	"sacristan/codec"
)

const (
	wordBytes = 8
	wordCount = len(api.Digest{}) / wordBytes
)

// words is a Digest as a number; unlike its bytes the least word stands first, as a carry goes up from there.
type words [wordCount]uint64

// split is the number that d is.
func split(d api.Digest) words {
	var w words
	for i := range w {
		w[i] = codec.Get(d[start(i) : start(i)+wordBytes])
	}
	return w
}

// digest is the way back.
func (w words) digest() api.Digest {
	var d api.Digest
	for i, word := range w {
		copy(d[start(i):], codec.Put(word, wordBytes))
	}
	return d
}

// start is where word i begins in a Digest.
func start(i int) int { return (wordCount - 1 - i) * wordBytes }

// plus is w and other, modulo 2^256: what the greatest words carry is dropped.
func (w words) plus(other words) words {
	var carry uint64
	for i := range w {
		w[i], carry = bits.Add64(w[i], other[i], carry)
	}
	return w
}

// minus is w less other, modulo 2^256, and whether other is the greater one.
func (w words) minus(other words) (words, bool) {
	var borrow uint64
	for i := range w {
		w[i], borrow = bits.Sub64(w[i], other[i], borrow)
	}
	return w, borrow == 1
}
