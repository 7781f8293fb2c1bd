package sha

import "math/bits"

// turn is w turned right by n bits.
func turn[W ~uint32](w W, n int) W {
	return W(bits.RotateLeft32(uint32(w), -n))
}

// compress is what s comes to with b mixed in.
func compress(s state, b block) state {
	words, fixed := schedule(b), keyWords()
	// In a round eight words of their own are some three times as fast as an array of them.
	v0, v1, v2, v3, v4, v5, v6, v7 := s[0], s[1], s[2], s[3], s[4], s[5], s[6], s[7]
	for i := range rounds {
		one := v7 + high(v4) + choose(v4, v5, v6) + fixed[i] + words[i]
		two := low(v0) + most(v0, v1, v2)
		v0, v1, v2, v3, v4, v5, v6, v7 = one+two, v0, v1, v2, v3+one, v4, v5, v6
	}
	v := state{v0, v1, v2, v3, v4, v5, v6, v7}
	for i := range s {
		s[i] += v[i]
	}
	return s
}

// schedule is a word a round: those of b, and what they lead to.
func schedule(b block) [rounds]uint32 {
	var w [rounds]uint32
	for i := range b {
		w[i/4] = w[i/4]<<8 | uint32(b[i])
	}
	for i := blockBytes / 4; i < rounds; i++ {
		w[i] = late(w[i-2]) + w[i-7] + early(w[i-15]) + w[i-16]
	}
	return w
}

// choose takes each bit of y where x has one, else of z.
func choose(x, y, z uint32) uint32 { return x&y ^ ^x&z }

// most takes each bit as most of the three have it.
func most(x, y, z uint32) uint32 { return x&y ^ x&z ^ y&z }

// The four sigmas of the standard, Σ0, Σ1, σ0 and σ1.

func low(w uint32) uint32 { return turn(w, 2) ^ turn(w, 13) ^ turn(w, 22) }

func high(w uint32) uint32 { return turn(w, 6) ^ turn(w, 11) ^ turn(w, 25) }

func early(w uint32) uint32 { return turn(w, 7) ^ turn(w, 18) ^ w>>3 }

func late(w uint32) uint32 { return turn(w, 17) ^ turn(w, 19) ^ w>>10 }
