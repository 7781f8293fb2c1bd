package aes

import (
	"sync"
	"testing"

	"sacristan/api"
)

// This comes first: here the box is made while many ask for it.
func TestManyAtOnce(t *testing.T) {
	const many = 32
	var blocks, again [many]api.Nonce
	var boxed [many]byte
	var all sync.WaitGroup
	shared := New(api.Key{1})
	for i := range many {
		all.Go(func() {
			boxed[i] = Box(0x53)
			blocks[i] = New(api.Key{1}).Block(api.Nonce{2})
			again[i] = shared.Block(api.Nonce{2})
		})
	}
	all.Wait()
	want := New(api.Key{1}).Block(api.Nonce{2})
	for i := range many {
		if boxed[i] != 0xed || blocks[i] != want || again[i] != want {
			t.Errorf("of the askers at one time, %d is told %02x, %x and %x", i, boxed[i], blocks[i], again[i])
		}
	}
}

// emptyBox lets the box be as it is ahead of every call.
func emptyBox() {
	making, box = sync.Once{}, table{}
}

// Whichever call comes first, the box is made ahead of it.
func TestTheBoxIsMadeFirst(t *testing.T) {
	defer emptyBox()
	want := New(api.Key{3}).Block(api.Nonce{4})
	for name, call := range map[string]func(){
		"Box":    func() { Box(0) },
		"New":    func() { New(api.Key{}) },
		"Block":  func() { new(Cipher).Block(api.Nonce{}) },
		"Stream": func() { new(Cipher).Stream(api.Nonce{}, 1) },
		"Xor":    func() { new(Cipher).Xor(api.Nonce{}, []byte{1}) },
	} {
		emptyBox()
		call()
		if box != makeBox() {
			t.Errorf("behind %s the box is not made", name)
		}
		if New(api.Key{3}).Block(api.Nonce{4}) != want || Box(0x53) != 0xed {
			t.Errorf("behind %s another block comes out", name)
		}
	}
}

// The box is made no second time, and all are handed the same one.
func TestTheBoxIsMadeOnce(t *testing.T) {
	defer emptyBox()
	emptyBox()
	if theBox() != theBox() || *theBox() != makeBox() {
		t.Error("there is more than one box, or another")
	}
	box = table{}
	New(api.Key{}).Stream(api.Nonce{}, 100)
	Box(1)
	if box != (table{}) {
		t.Error("the box is made a second time")
	}
}

// Each byte but 0 has an inverse in the field, and is that of its own; no two bytes share a place of the box.
func TestInverses(t *testing.T) {
	if invert(0) != 0 || invert(1) != 1 {
		t.Errorf("the inverse of 0 is %02x, of 1 %02x", invert(0), invert(1))
	}
	var seen [256]bool
	for i := range 256 {
		c := byte(i)
		if c != 0 && Mul(c, invert(c)) != 1 || invert(invert(c)) != c {
			t.Errorf("the inverse of %02x is %02x", c, invert(c))
		}
		if seen[Box(c)] || Box(c) == c {
			t.Errorf("the box of %02x is its own, or another's", c)
		}
		seen[Box(c)] = true
	}
}

// A byte is turned within its eight bits, a word within its 32.
func TestTurn(t *testing.T) {
	for n := range 9 {
		if got, want := turn(byte(0x81), n), byte(uint32(0x8181)>>(8-n)); got != want {
			t.Errorf("a byte, turned by %d, is %02x, not %02x", n, got, want)
		}
	}
	for n := range 33 {
		if got, want := turn(uint32(0x80000103), n), uint32(uint64(0x8000010380000103)>>(32-n)); got != want {
			t.Errorf("a word, turned by %d, is %08x, not %08x", n, got, want)
		}
	}
}

// Doubling a word doubles each of its bytes, whatever stands beside it.
func TestDoubleAll(t *testing.T) {
	for i := range 256 {
		c := byte(i)
		w := uint32(c)<<24 | uint32(^c)<<16 | uint32(c)<<8 | uint32(^c)
		for r := range 4 {
			if row(doubleAll(w), r) != Mul(row(w, r), 2) || double(row(w, r)) != Mul(row(w, r), 2) {
				t.Errorf("of %08x, doubled, byte %d is %02x", w, r, row(doubleAll(w), r))
			}
		}
	}
}

// The last words of the standard's own example of a key, and the first that are not the key.
func TestExpandPublished(t *testing.T) {
	key := api.Key{0x2b, 0x7e, 0x15, 0x16, 0x28, 0xae, 0xd2, 0xa6, 0xab, 0xf7, 0x15, 0x88, 0x09, 0xcf, 0x4f, 0x3c}
	keys := New(key).keys
	if keys[0] != (state{0x2b7e1516, 0x28aed2a6, 0xabf71588, 0x09cf4f3c}) {
		t.Errorf("ahead of the rounds there is %08x", keys[0])
	}
	if keys[1] != (state{0xa0fafe17, 0x88542cb1, 0x23a33939, 0x2a6c7605}) {
		t.Errorf("in the first round there is %08x", keys[1])
	}
	if keys[10] != (state{0xd014f9a8, 0xc9ee2589, 0xe13f0cc8, 0xb6630ca6}) {
		t.Errorf("in the last round there is %08x", keys[10])
	}
}

func BenchmarkStream(b *testing.B) {
	c := New(api.Key{1})
	b.SetBytes(api.MaxStream)
	for range b.N {
		c.Stream(api.Nonce{}, api.MaxStream)
	}
}
