package aes

import (
	"math/bits"
	"sync"
)

const (
	overflow = 0x1b // x^8, modulo the field's polynomial
	added    = 0x63 // what the box adds at last
	turns    = 4    // how often a byte is turned in the box, beside once not at all
)

// table is the box, byte by byte.
type table [256]byte

// The box that the document's Ways ask for, made once. It stands beside the calls of the chapter: Table alone
// runs and reads it, so that no answer hangs on what is filled later.
var (
	making sync.Once
	box    table
)

// Table: the whole box.
func Table() [256]byte { return *theBox() }

// theBox is the one that is made once; whoever is handed it only reads.
func theBox() *table {
	making.Do(func() { box = makeBox() })
	return &box
}

// makeBox is, of each byte, its inverse in the field, mixed with itself turned.
func makeBox() table {
	// The powers of 3 are all bytes but 0, and behind 255 of them they begin again: an inverse is as far from there
	// as its byte is from the first. To work each out by itself takes some ten times as long, and calls wait for it.
	var powers [255]byte
	power := byte(1)
	for i := range powers {
		powers[i] = power
		power ^= double(power)
	}
	// 0 has no inverse, and counts as its own.
	t := table{blend(0)}
	for i, c := range powers {
		t[c] = blend(powers[(len(powers)-i)%len(powers)])
	}
	return t
}

// blend is c mixed with itself turned.
func blend(c byte) byte {
	mixed := c ^ added
	for n := range turns {
		mixed ^= turn(c, n+1)
	}
	return mixed
}

// Box: of a byte.
func Box(c byte) byte { return makeBox()[c] }

// Mul: in the field.
func Mul(a byte, b byte) byte {
	var product byte
	for i := range 8 {
		if b>>i&1 == 1 {
			product ^= a
		}
		a = double(a)
	}
	return product
}

// double is the product of a and x.
func double(a byte) byte {
	return a<<1 ^ a>>7*overflow
}

// turn is w turned left by n bits, at most as many as it has.
func turn[W ~uint8 | ~uint32](w W, n int) W {
	return w<<n | w>>(bits.Len32(uint32(^W(0)))-n)
}
