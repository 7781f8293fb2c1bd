package sha

import (
	"math/bits"
	"sync"
)

// rounds is how many rounds a block goes through.
const rounds = 64

// The tables that the standard draws from the first primes: making is done ahead of each reading of the others.
var (
	making sync.Once
	start  state          // where each sum begins
	keys   [rounds]uint32 // a word a round
)

// makeTables fills them.
func makeTables() {
	primes := firstPrimes()
	for i := range start {
		start[i] = fraction(primes[i], squareBelow)
	}
	for i := range keys {
		keys[i] = fraction(primes[i], cubeBelow)
	}
}

// firstPrimes are as many primes as there are rounds, from 2 on.
func firstPrimes() [rounds]uint64 {
	var primes [rounds]uint64
	found := 0
candidates:
	for n := uint64(2); found < rounds; n++ {
		for _, p := range primes[:found] {
			if n%p == 0 {
				continue candidates
			}
		}
		primes[found] = n
		found++
	}
	return primes
}

// fraction is the first 32 bits behind the point of a root of p: below tells whether a root, with 32 bits behind the point, is too small.
func fraction(p uint64, below func(root, p uint64) bool) uint32 {
	// Ahead of the point there are at most three bits: of the roots that are asked for none is as great as 8.
	const wide = 3 + 32
	var root uint64
	for i := range wide {
		if more := root | 1<<(wide-1-i); below(more, p) {
			root = more
		}
	}
	return uint32(root)
}

// squareBelow: is root, squared, less than p with 64 bits behind the point? (The same it never is: p is a prime.)
func squareBelow(root, p uint64) bool {
	top, _ := bits.Mul64(root, root)
	return top < p
}

// cubeBelow: is root, cubed, less than p with 96 bits behind the point?
func cubeBelow(root, p uint64) bool {
	top, rest := bits.Mul64(root, root)
	carry, _ := bits.Mul64(rest, root)
	return top*root+carry < p<<32
}
