// Package codec is layer 1, numbers and fields as bytes: see shared/doc/01-codec.md.
package codec

import (
	"slices"

	"sacristan/api"
)

// widest is how many bytes the greatest number has.
const widest = 8

// Put: a number's bytes.
func Put(n uint64, wide int) []byte {
	b := make([]byte, min(max(wide, 0), widest))
	for i := range b {
		b[len(b)-1-i] = byte(n >> (8 * i))
	}
	return b
}

// Get: the way back.
func Get(b []byte) uint64 {
	var n uint64
	for _, c := range b[max(len(b)-widest, 0):] {
		n = n<<8 | uint64(c)
	}
	return n
}

// Cut: fields.
func Cut(b []byte, wide ...int) ([][]byte, api.Errno) {
	fields := make([][]byte, 0, len(wide))
	rest, e := b, api.OK
cutting:
	for _, w := range wide {
		// Each width is held against what is left: a sum of all of them could wrap round.
		switch n := max(w, 0); {
		case n > len(rest):
			e = api.ErrShort
			break cutting
		default:
			// A copy, not a piece of b: whoever changes a field changes nothing else.
			fields = append(fields, Join(rest[:n]))
			rest = rest[n:]
		}
	}
	if e == api.OK && len(rest) > 0 {
		e = api.ErrForm
	}
	if e != api.OK {
		return nil, e
	}
	return fields, api.OK
}

// Join: one behind the other.
func Join(l ...[]byte) []byte {
	return slices.Concat(l...)
}

// Pad: with noughts.
func Pad(b []byte, wide int) []byte {
	padded := make([]byte, max(len(b), wide))
	copy(padded, b)
	return padded
}

// Equal: are they?
func Equal(a []byte, b []byte) bool {
	// There is no way out of the loop, so that the time it takes tells nobody where two tags differ first.
	differences := len(a) ^ len(b)
	gather := func(x, y byte) { differences |= int(x ^ y) }
	for i := range min(len(a), len(b)) {
		gather(a[i], b[i])
	}
	return differences == 0
}
