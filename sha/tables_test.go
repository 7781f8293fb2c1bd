package sha

import (
	"crypto/sha256"
	"math/big"
	"sync"
	"testing"

	"sacristan/api"
)

// This comes first: here the tables are made while many ask for them.
func TestManyAtOnce(t *testing.T) {
	const many = 32
	var sums, told [many]api.Digest
	var begins [many][8]uint32
	var words [many][rounds]uint32
	var all sync.WaitGroup
	for i := range many {
		all.Go(func() {
			h := New()
			h.Write(make([]byte, i))
			told[i] = h.Copy().Sum()
			sums[i] = Sum(make([]byte, i))
			begins[i], words[i] = Tables()
		})
	}
	all.Wait()
	for i := range many {
		if want := sha256.Sum256(make([]byte, i)); sums[i] != want || told[i] != want {
			t.Errorf("of %d bytes the sums are %x and %x", i, sums[i], told[i])
		}
		if begins[i] != startWords() || words[i] != keyWords() {
			t.Errorf("of the askers at one time, %d is told other tables", i)
		}
	}
}

// primes are the first n of them.
func primes(n int) []int64 {
	var l []int64
	for c := int64(2); len(l) < n; c++ {
		if big.NewInt(c).ProbablyPrime(20) {
			l = append(l, c)
		}
	}
	return l
}

// fraction is the first 32 bits behind the point of p's root of that degree.
func fraction(p int64, degree uint) uint32 {
	above := new(big.Int).Lsh(big.NewInt(p), 32*degree)
	root := new(big.Int)
	for bit := 40; bit >= 0; bit-- {
		more := new(big.Int).SetBit(root, bit, 1)
		if new(big.Int).Exp(more, big.NewInt(int64(degree)), nil).Cmp(above) <= 0 {
			root = more
		}
	}
	return uint32(root.Uint64())
}

// The words that are written out are those that the standard draws from the first primes.
func TestWordsAreThePrimes(t *testing.T) {
	begin, each := startWords(), keyWords()
	for i, p := range primes(rounds) {
		if i < len(begin) && begin[i] != fraction(p, 2) {
			t.Errorf("a sum begins with %08x at %d, not with %08x", begin[i], i, fraction(p, 2))
		}
		if each[i] != fraction(p, 3) {
			t.Errorf("the word of round %d is %08x, not %08x", i, each[i], fraction(p, 3))
		}
	}
}

// emptyTables lets the tables be as they are ahead of every call.
func emptyTables() {
	making, start, keys = sync.Once{}, state{}, [rounds]uint32{}
}

// Tables tells what the functions write out, and makes it no second time.
func TestTablesAreMadeOnce(t *testing.T) {
	defer emptyTables()
	emptyTables()
	for range 2 {
		if begin, each := Tables(); begin != startWords() || each != keyWords() {
			t.Error("the tables are not what the functions tell")
		}
	}
	start, keys = state{}, [rounds]uint32{}
	if begin, each := Tables(); begin != (state{}) || each != ([rounds]uint32{}) {
		t.Error("the tables are made a second time")
	}
}

// Who changes what Tables told changes no table.
func TestTablesAreApart(t *testing.T) {
	begin, each := Tables()
	begin[0], each[0] = 1, 2
	if begin, each := Tables(); begin != startWords() || each != keyWords() {
		t.Error("what was told is the tables themselves")
	}
}

// holdsCalls holds every call of the chapter against another SHA-256.
func holdsCalls(t *testing.T) {
	t.Helper()
	b := make([]byte, 150)
	want := api.Digest(sha256.Sum256(b))
	h := New()
	h.Write(b[:100])
	c := h.Copy()
	h.Write(b[100:])
	c.Write(b[100:])
	if Sum(b) != want || h.Sum() != want || c.Sum() != want || New().Sum() != sha256.Sum256(nil) {
		t.Error("an answer hangs on the tables")
	}
}

// No answer hangs on the tables: whatever they hold, all calls tell the same.
func TestNoAnswerHangsOnTheTables(t *testing.T) {
	defer emptyTables()
	Tables()
	start, keys = state{1}, [rounds]uint32{2, 3}
	holdsCalls(t)
	if start != (state{1}) || keys != ([rounds]uint32{2, 3}) {
		t.Error("a call fills the tables")
	}
}

// All calls do without the tables: none makes them.
func TestCallsDoWithoutTheTables(t *testing.T) {
	defer emptyTables()
	emptyTables()
	holdsCalls(t)
	if start != (state{}) || keys != ([rounds]uint32{}) {
		t.Error("a call makes the tables")
	}
}
