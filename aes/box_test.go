package aes

import (
	"sync"
	"testing"

	"sacristan/api"
)

// This comes first: here the box is made while many ask for it.
func TestManyAtOnce(t *testing.T) {
	const many = 32
	var blocks, again [many]api.Nonce
	var boxed [many]byte
	var whole [many][256]byte
	var all sync.WaitGroup
	shared := New(api.Key{1})
	for i := range many {
		all.Go(func() {
			boxed[i] = Box(0x53)
			blocks[i] = New(api.Key{1}).Block(api.Nonce{2})
			again[i] = shared.Block(api.Nonce{2})
			whole[i] = Table()
		})
	}
	all.Wait()
	want := New(api.Key{1}).Block(api.Nonce{2})
	for i := range many {
		if boxed[i] != 0xed || blocks[i] != want || again[i] != want || whole[i] != makeBox() {
			t.Errorf("of the askers at one time, %d is told %02x, %x and %x, or another box", i, boxed[i], blocks[i], again[i])
		}
	}
}

// emptyBox lets the box be as it is ahead of every call.
func emptyBox() {
	making, box = sync.Once{}, table{}
}

// Table tells the box of each byte, and makes it no second time: all are handed the same one.
func TestTheBoxIsMadeOnce(t *testing.T) {
	defer emptyBox()
	emptyBox()
	for range 2 {
		for c, b := range Table() {
			if b != Box(byte(c)) {
				t.Errorf("of %02x the table has %02x, not %02x", c, b, Box(byte(c)))
			}
		}
	}
	if theBox() != theBox() || *theBox() != makeBox() {
		t.Error("there is more than one box, or another")
	}
	box = table{}
	if Table() != (table{}) {
		t.Error("the box is made a second time")
	}
}

// Who changes what Table told changes no box.
func TestTablesAreApart(t *testing.T) {
	whole := Table()
	whole[0], whole[0x53] = 1, 2
	if Table() != makeBox() || Box(0) != 0x63 || Box(0x53) != 0xed {
		t.Error("what was told is the box itself")
	}
}

// holdsCalls holds every call of the chapter against the standards' own examples.
func holdsCalls(t *testing.T) {
	t.Helper()
	c := New(api.Key{0x2b, 0x7e, 0x15, 0x16, 0x28, 0xae, 0xd2, 0xa6, 0xab, 0xf7, 0x15, 0x88, 0x09, 0xcf, 0x4f, 0x3c})
	in := api.Nonce{0x32, 0x43, 0xf6, 0xa8, 0x88, 0x5a, 0x30, 0x8d, 0x31, 0x31, 0x98, 0xa2, 0xe0, 0x37, 0x07, 0x34}
	out := api.Nonce{0x39, 0x25, 0x84, 0x1d, 0x02, 0xdc, 0x09, 0xfb, 0xdc, 0x11, 0x85, 0x97, 0x19, 0x6a, 0x0b, 0x32}
	hidden := out
	hidden[2] ^= 9
	if c.Block(in) != out || api.Nonce(c.Stream(in, 16)) != out || api.Nonce(c.Xor(in, []byte{2: 9, 15: 0})) != hidden {
		t.Error("what is enciphered hangs on the box that is made once")
	}
	if Box(0) != 0x63 || Box(0x53) != 0xed || Mul(0x57, 0x83) != 0xc1 || Next(api.Nonce{15: 0xff}, 1) != (api.Nonce{14: 1}) {
		t.Error("an answer hangs on the box that is made once")
	}
}

// No answer hangs on the box that is made once: whatever it holds, all calls tell the same.
func TestNoAnswerHangsOnTheBox(t *testing.T) {
	defer emptyBox()
	Table()
	scrambled := table{3, 2, 1}
	box = scrambled
	holdsCalls(t)
	if box != scrambled {
		t.Error("a call fills the box")
	}
}

// All calls do without it: none makes it.
func TestCallsDoWithoutTheBox(t *testing.T) {
	defer emptyBox()
	emptyBox()
	holdsCalls(t)
	if box != (table{}) {
		t.Error("a call makes the box")
	}
	made := false
	making.Do(func() { made = true })
	if !made {
		t.Error("a call runs the making of the box")
	}
}

// What a Cipher that New did not make tells hangs on no box that is made once.
func TestCipherOfNoughtsDoesWithoutTheBox(t *testing.T) {
	defer emptyBox()
	emptyBox()
	var c Cipher
	was := c.Block(api.Nonce{1})
	Table()
	if c.Block(api.Nonce{1}) != was || was == (api.Nonce{}) || box == (table{}) {
		t.Error("a call ahead of Table tells another block than one behind it")
	}
}

// inverse is found among all bytes; 0 has none, and counts as its own.
func inverse(c byte) byte {
	for i := range 256 {
		if Mul(c, byte(i)) == 1 {
			return byte(i)
		}
	}
	return 0
}

// The box is each byte's inverse, of which each bit is mixed with four others, as the standard tells it.
func TestTheBoxIsInverses(t *testing.T) {
	for i, b := range makeBox() {
		c := inverse(byte(i))
		var want byte
		for bit := range 8 {
			x := byte(0x63)>>bit ^ c>>bit
			for _, n := range []int{4, 5, 6, 7} {
				x ^= c >> ((bit + n) % 8)
			}
			want |= x & 1 << bit
		}
		if b != want {
			t.Errorf("the box of %02x is %02x, not %02x", i, b, want)
		}
	}
}

// No two bytes share a place of the box, and none is its own.
func TestTheBoxIsApart(t *testing.T) {
	var seen [256]bool
	for i, b := range makeBox() {
		if seen[b] || b == byte(i) || b == ^byte(i) {
			t.Errorf("the box of %02x is its own, or another's", i)
		}
		seen[b] = true
	}
}

// A byte is turned within its eight bits, a word within its 32.
func TestTurn(t *testing.T) {
	for n := range 9 {
		if got, want := turn(byte(0x81), n), byte(uint32(0x8181)>>(8-n)); got != want {
			t.Errorf("a byte, turned by %d, is %02x, not %02x", n, got, want)
		}
	}
	for n := range 33 {
		if got, want := turn(uint32(0x80000103), n), uint32(uint64(0x8000010380000103)>>(32-n)); got != want {
			t.Errorf("a word, turned by %d, is %08x, not %08x", n, got, want)
		}
	}
}

// Doubling a word doubles each of its bytes, whatever stands beside it.
func TestDoubleAll(t *testing.T) {
	for i := range 256 {
		c := byte(i)
		w := uint32(c)<<24 | uint32(^c)<<16 | uint32(c)<<8 | uint32(^c)
		for r := range 4 {
			if row(doubleAll(w), r) != Mul(row(w, r), 2) || double(row(w, r)) != Mul(row(w, r), 2) {
				t.Errorf("of %08x, doubled, byte %d is %02x", w, r, row(doubleAll(w), r))
			}
		}
	}
}

// The last words of the standard's own example of a key, and the first that are not the key.
func TestExpandPublished(t *testing.T) {
	key := api.Key{0x2b, 0x7e, 0x15, 0x16, 0x28, 0xae, 0xd2, 0xa6, 0xab, 0xf7, 0x15, 0x88, 0x09, 0xcf, 0x4f, 0x3c}
	keys := New(key).keys
	if keys[0] != (state{0x2b7e1516, 0x28aed2a6, 0xabf71588, 0x09cf4f3c}) {
		t.Errorf("ahead of the rounds there is %08x", keys[0])
	}
	if keys[1] != (state{0xa0fafe17, 0x88542cb1, 0x23a33939, 0x2a6c7605}) {
		t.Errorf("in the first round there is %08x", keys[1])
	}
	if keys[10] != (state{0xd014f9a8, 0xc9ee2589, 0xe13f0cc8, 0xb6630ca6}) {
		t.Errorf("in the last round there is %08x", keys[10])
	}
}

func BenchmarkStream(b *testing.B) {
	c := New(api.Key{1})
	b.SetBytes(api.MaxStream)
	for range b.N {
		c.Stream(api.Nonce{}, api.MaxStream)
	}
}
