package bits_test

import (
	"math/rand"
	"slices"
	"testing"

	"sacristan/api"
	"sacristan/bits"
)

// plain is a row of bits, one an item.
type plain []bool

// read is the row that b is, by the words of the document alone.
func read(b []byte) plain {
	var p plain
	for _, x := range b {
		for range 8 {
			p = append(p, x%2 == 1)
			x /= 2
		}
	}
	return p
}

// of is those of from to to - 1 that are bits, and taken, or not.
func (p plain) of(from int, to int, taken bool) []int {
	var l []int
	for i, x := range p {
		if i >= from && i < to && x == taken {
			l = append(l, i)
		}
	}
	return l
}

// holds asks that all that is told of b between from and to is told as p means it.
func (p plain) holds(t *testing.T, b []byte, from int, to int, n int) {
	t.Helper()
	free := p.of(from, to, false)
	first := -1
	if len(free) > 0 {
		first = free[0]
	}
	counts(t, "First", bits.First(b, from, to), first)
	counts(t, "Count", bits.Count(b, from, to), len(p.of(from, to, true)))
	if n > len(free) {
		lacks(t, b, n, from, to)
	} else {
		finds(t, b, n, from, to, free[:max(n, 0)]...)
	}
}

// Rows of all lengths about a word, of each way to be filled, between all edges.
func TestAsThePlainOne(t *testing.T) {
	r := rand.New(rand.NewSource(12))
	for n := range 27 {
		for _, few := range []int{1, 2, 9, 60} {
			b := make([]byte, n)
			for i := range 8 * n {
				b = bits.Set(b, i, (r.Intn(few) == 0) == (n%2 == 0))
			}
			p := read(b)
			for from := -3; from < 8*n+3; from++ {
				to := from - 3 + r.Intn(8*n+10)
				p.holds(t, b, from, to, r.Intn(8)-1)
				p.holds(t, b, from, to, len(p.of(from, to, false)))
				p.holds(t, b, from, to, len(p.of(from, to, false))+1)
			}
		}
	}
}

// What is taken step by step, the least that is free each time or some of it, and given back, is as it was.
func TestTakenStepByStep(t *testing.T) {
	r := rand.New(rand.NewSource(34))
	const n = 150
	b := make([]byte, bits.Wide(n))
	p := make(plain, 8*len(b))
	for range 4000 {
		from := r.Intn(n)
		to := from + r.Intn(n-from+1)
		var l []int
		taken := r.Intn(5) > 1
		switch {
		case !taken:
			l = p.of(from, to, true)
			l = l[:min(len(l), 40)]
		case r.Intn(2) == 0:
			if i := bits.First(b, from, to); i >= 0 {
				l = []int{i}
			}
		default:
			some, e := bits.Some(b, r.Intn(9), from, to)
			if e != api.OK && len(some) > 0 {
				t.Fatalf("Some tells %v, %d", some, e)
			}
			l = some
		}
		for _, i := range l {
			if i < from || i >= to || bits.Get(b, i) == taken {
				t.Fatalf("%d is told of %d to %d, and is %t", i, from, to, bits.Get(b, i))
			}
			b, p[i] = bits.Set(b, i, taken), taken
		}
		if !slices.Equal(read(b), p) {
			t.Fatalf("it is %x, not %v", b, p)
		}
		p.holds(t, b, from, to, r.Intn(9))
	}
}
