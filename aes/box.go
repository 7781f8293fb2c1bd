package aes

import (
	"math/bits"
	"sync"
)

const (
	overflow = 0x1b // x^8, modulo the field's polynomial
	added    = 0x63 // what the box adds at last
	turns    = 4    // how often a byte is turned in the box, beside once not at all
)

// table is the box, byte by byte.
type table [256]byte

// The box, made once, ahead of its first use.
var (
	making sync.Once
	box    table
)

// theBox is the box; whoever is handed it only reads.
func theBox() *table {
	making.Do(func() { box = makeBox() })
	return &box
}

// makeBox is, of each byte, its inverse in the field, mixed with itself turned.
func makeBox() table {
	var t table
	for i := range t {
		inverse := invert(byte(i))
		mixed := inverse ^ added
		for n := range turns {
			mixed ^= turn(inverse, n+1)
		}
		t[i] = mixed
	}
	return t
}

// invert is c to the power of 254: the inverse of c, as to the power of 255 all but 0 are 1; 0 of 0.
func invert(c byte) byte {
	power, product := c, byte(1)
	// 254 is all bits of a byte but the lowest.
	for range 7 {
		power = Mul(power, power)
		product = Mul(product, power)
	}
	return product
}

// Box: of a byte.
func Box(c byte) byte { return theBox()[c] }

// Mul: in the field.
func Mul(a byte, b byte) byte {
	var product byte
	for i := range 8 {
		if b>>i&1 == 1 {
			product ^= a
		}
		a = double(a)
	}
	return product
}

// double is the product of a and x.
func double(a byte) byte {
	return a<<1 ^ a>>7*overflow
}

// turn is w turned left by n bits, at most as many as it has.
func turn[W ~uint8 | ~uint32](w W, n int) W {
	return w<<n | w>>(bits.Len32(uint32(^W(0)))-n)
}
