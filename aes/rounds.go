package aes

const (
	rounds   = 10 // that a block goes through
	byteBits = 8
)

// state is a block on its way: a word a column, of each the uppermost byte the greatest.
type state [4]uint32

// columns is the state that b is at first.
func columns(b [blockBytes]byte) state {
	var s state
	for i := range b {
		s[i/4] = s[i/4]<<byteBits | uint32(b[i])
	}
	return s
}

// bytes is the way back.
func (s state) bytes() [blockBytes]byte {
	var b [blockBytes]byte
	for i := range b {
		b[i] = row(s[i/4], i%4)
	}
	return b
}

// row is the byte of a column in row r.
func row(column uint32, r int) byte { return byte(column >> (byteBits * (3 - r))) }

// expand is what key comes to: a state ahead of the rounds, and one a round.
func expand(key state, box *table) [rounds + 1]state {
	keys := [rounds + 1]state{key}
	constant := byte(1)
	for i := range rounds {
		last := keys[i]
		w := substitute(turn(last[3], byteBits), box) ^ uint32(constant)<<(3*byteBits)
		for j := range last {
			w ^= last[j]
			keys[i+1][j] = w
		}
		constant = double(constant)
	}
	return keys
}

// encipher is s, behind all rounds.
func encipher(s state, keys *[rounds + 1]state, box *table) state {
	s = add(s, keys[0])
	for i := range rounds - 1 {
		s = add(mix(shift(s, box)), keys[i+1])
	}
	// The last round mixes no columns.
	return add(shift(s, box), keys[rounds])
}

// add is s and key, in the field.
func add(s, key state) state {
	for j := range s {
		s[j] ^= key[j]
	}
	return s
}

// shift is s with row r shifted r columns to the left, and each byte gone through the box.
func shift(s state, box *table) state {
	var shifted state
	for j := range s {
		one, two, three := s[(j+1)%len(s)], s[(j+2)%len(s)], s[(j+3)%len(s)]
		shifted[j] = substitute(s[j]&0xff000000|one&0x00ff0000|two&0x0000ff00|three&0x000000ff, box)
	}
	return shifted
}

// substitute is w with each byte gone through the box.
func substitute(w uint32, box *table) uint32 {
	return uint32(box[byte(w>>24)])<<24 | uint32(box[byte(w>>16)])<<16 | uint32(box[byte(w>>8)])<<8 | uint32(box[byte(w)])
}

// mix is s with each column multiplied by 3, 1, 1, 2, as a polynomial over the field.
func mix(s state) state {
	for j, w := range s {
		next := turn(w, byteBits)
		s[j] = doubleAll(w^next) ^ next ^ turn(w, 2*byteBits) ^ turn(w, 3*byteBits)
	}
	return s
}

// doubleAll is w with each byte doubled in the field.
func doubleAll(w uint32) uint32 {
	const lowest, others = 0x01010101, 0x7f7f7f7f // bits of each byte
	return w&others<<1 ^ w>>7&lowest*overflow
}
