package sha_test

import (
	"bytes"
	"crypto/sha256"
	"fmt"
	"math/rand"
	"strings"
	"testing"

	"sacristan/api"
	"sacristan/sha"
)

// counted is n bytes, each other than the one ahead of it.
func counted(n int) []byte {
	b := make([]byte, n)
	for i := range b {
		b[i] = byte(i%251 + 1)
	}
	return b
}

// want is what the library's own SHA-256 tells.
func want(b []byte) api.Digest { return sha256.Sum256(b) }

// told is a Hash that was told the pieces of l.
func told(l ...[]byte) *sha.Hash {
	h := sha.New()
	for _, b := range l {
		h.Write(b)
	}
	return h
}

// The sums that the standard's own examples have.
func TestPublished(t *testing.T) {
	for text, sum := range map[string]string{
		"":    "e3b0c44298fc1c149afbf4c8996fb92427ae41e4649b934ca495991b7852b855",
		"abc": "ba7816bf8f01cfea414140de5dae2223b00361a396177a9cb410ff61f20015ad",
		"abcdbcdecdefdefgefghfghighijhijkijkljklmklmnlmnomnopnopq":                                                         "248d6a61d20638b8e5c026930c3e6039a33ce45964ff2167f6ecedd419db06c1",
		"abcdefghbcdefghicdefghijdefghijkefghijklfghijklmghijklmnhijklmnoijklmnopjklmnopqklmnopqrlmnopqrsmnopqrstnopqrstu": "cf5b16a778af8380036ce59e7b0492370b249b11e8f07a51afac45037afee9d1",
		strings.Repeat("a", 1000000): "cdc76e5c9914fb9281a1c7e284d73e67f1809a48a497200e046d39ccc7112cd0",
	} {
		if d := fmt.Sprintf("%x", sha.Sum([]byte(text))); d != sum {
			t.Errorf("of %.20q the sum is %s, not %s", text, d, sum)
		}
		if d := fmt.Sprintf("%x", told([]byte(text)).Sum()); d != sum {
			t.Errorf("of a Hash that was told %.20q the sum is %s, not %s", text, d, sum)
		}
	}
}

// All lengths about the ends of the first blocks, where the ending takes a block more or not.
func TestAllLengths(t *testing.T) {
	for n := range 70 * 8 {
		b := counted(n)
		if d := sha.Sum(b); d != want(b) {
			t.Errorf("of %d bytes the sum is %x, not %x", n, d, want(b))
		}
		if d := told(b).Sum(); d != want(b) {
			t.Errorf("of a Hash that was told %d bytes the sum is %x, not %x", n, d, want(b))
		}
	}
}

// The count of bits takes more than its last two bytes, and more than its last three.
func TestLong(t *testing.T) {
	for _, n := range []int{1<<13 - 1, 1 << 13, 1<<16 + 55, 1<<20 + 56, 1<<21 + 63} {
		if b := counted(n); sha.Sum(b) != want(b) {
			t.Errorf("of %d bytes the sum is another one", n)
		}
	}
}

func TestNothing(t *testing.T) {
	none := want(nil)
	if sha.Sum() != none || sha.Sum(nil) != none || sha.Sum([]byte{}) != none || sha.Sum(nil, []byte{}, nil) != none {
		t.Error("the sum of nothing hangs on how it is told")
	}
	var list [][]byte
	if sha.Sum(list...) != none {
		t.Error("a list that is nil is told otherwise than an empty one")
	}
	if sha.New() == nil || sha.New().Sum() != none || sha.New().Copy().Sum() != none {
		t.Error("New was told something")
	}
	h := sha.New()
	h.Write(nil)
	h.Write([]byte{})
	if h.Sum() != none {
		t.Error("nothing, written, is something")
	}
}

// Each bit that is told makes a difference, as does a nought more.
func TestEachBitMatters(t *testing.T) {
	for _, n := range []int{1, 55, 56, 64, 65} {
		b := counted(n)
		was := sha.Sum(b)
		for i := range n * 8 {
			b[i/8] ^= 1 << (i % 8)
			if sha.Sum(b) == was {
				t.Errorf("of %d bytes bit %d makes no difference", n, i)
			}
			b[i/8] ^= 1 << (i % 8)
		}
		if sha.Sum(b, []byte{0}) == was || sha.Sum([]byte{0}, b) == was {
			t.Errorf("beside %d bytes a nought makes no difference", n)
		}
	}
}

func TestTwoPieces(t *testing.T) {
	for _, n := range []int{0, 1, 55, 56, 63, 64, 65, 127, 128, 129, 192, 200} {
		b := counted(n)
		for cut := range n + 1 {
			if sha.Sum(b[:cut], b[cut:]) != want(b) || told(b[:cut], b[cut:]).Sum() != want(b) {
				t.Errorf("%d bytes, cut at %d, have another sum", n, cut)
			}
		}
	}
}

// In whatever pieces bytes come, their sum is the same.
func TestAnyPieces(t *testing.T) {
	r := rand.New(rand.NewSource(1))
	for range 500 {
		b := make([]byte, r.Intn(1000))
		r.Read(b)
		var pieces [][]byte
		for rest := b; len(rest) > 0; {
			n := min(r.Intn(1+r.Intn(200)), len(rest))
			pieces = append(pieces, rest[:n])
			rest = rest[n:]
		}
		if sha.Sum(pieces...) != want(b) {
			t.Fatalf("%d bytes in %d pieces have another sum", len(b), len(pieces))
		}
		if told(pieces...).Sum() != want(b) {
			t.Fatalf("%d bytes, written in %d pieces, have another sum", len(b), len(pieces))
		}
	}
}

func TestByteByByte(t *testing.T) {
	b := counted(300)
	h := sha.New()
	for i := range b {
		h.Write(b[i : i+1])
		// The sum is asked for each time: it changes nothing.
		if h.Sum() != want(b[:i+1]) || h.Sum() != want(b[:i+1]) {
			t.Errorf("behind %d bytes the sum is another one", i+1)
		}
	}
}

// The order of pieces is that of their bytes.
func TestOrderMatters(t *testing.T) {
	one, two := counted(70), []byte{9, 8, 7}
	if sha.Sum(one, two) == sha.Sum(two, one) || told(one, two).Sum() == told(two, one).Sum() {
		t.Error("the order of pieces makes no difference")
	}
}

// A copy was told the same, and neither knows what the other is told from then on.
func TestCopy(t *testing.T) {
	for _, n := range []int{0, 1, 55, 63, 64, 65, 128, 150} {
		b := counted(n)
		h := told(b)
		c := h.Copy()
		if c == h || c.Sum() != want(b) {
			t.Fatalf("behind %d bytes the copy's sum is another one", n)
		}
		more, other := counted(77), bytes.Repeat([]byte{0xee}, 90)
		c.Write(more)
		if h.Sum() != want(b) {
			t.Errorf("behind %d bytes: what the copy is told, the first one knows", n)
		}
		h.Write(other)
		if c.Sum() != want(append(b[:n:n], more...)) {
			t.Errorf("behind %d bytes: what the first one is told, the copy knows", n)
		}
		if h.Sum() != want(append(b[:n:n], other...)) {
			t.Errorf("behind %d bytes: the copy hinders the first one", n)
		}
		again := c.Copy()
		again.Write(other)
		if again.Sum() != want(bytes.Join([][]byte{b, more, other}, nil)) || c.Sum() == again.Sum() {
			t.Errorf("behind %d bytes a copy's copy is told otherwise", n)
		}
	}
}

// Two objects know nothing of one another (R4).
func TestTwoHashes(t *testing.T) {
	one, two := sha.New(), sha.New()
	for i := range 200 {
		one.Write([]byte{byte(i)})
		two.Write([]byte{byte(i), 1})
		sha.Sum(counted(i))
	}
	var a, b []byte
	for i := range 200 {
		a = append(a, byte(i))
		b = append(b, byte(i), 1)
	}
	if one.Sum() != want(a) || two.Sum() != want(b) {
		t.Error("two Hashes know of one another")
	}
}

func TestNilHash(t *testing.T) {
	var none *sha.Hash
	for _, b := range [][]byte{nil, {}, counted(1), counted(64), counted(1000)} {
		none.Write(b)
		if none.Sum() != (api.Digest{}) || none.Copy() != nil {
			t.Error("a nil Hash tells something")
		}
	}
}

// A Hash that New did not make was told nothing.
func TestHashOfNoughts(t *testing.T) {
	var h sha.Hash
	if h.Sum() != want(nil) || h.Copy().Sum() != want(nil) {
		t.Errorf("its sum is %x", h.Sum())
	}
	h.Write(counted(100))
	if h.Sum() != want(counted(100)) {
		t.Errorf("its sum is %x", h.Sum())
	}
}

// What is handed in is neither changed nor kept, and room behind it is not looked at (R2).
func TestNothingIsKept(t *testing.T) {
	room := counted(400)
	b := room[3:203]
	h := told(b, b[:10])
	d := sha.Sum(b, b[:10])
	if !bytes.Equal(room, counted(400)) {
		t.Fatal("what was handed in is changed")
	}
	clear(room)
	copied := counted(203)[3:]
	if all := want(append(copied, copied[:10]...)); h.Sum() != all || d != all {
		t.Error("what was handed in is kept")
	}
	pieces := [][]byte{counted(5), nil, counted(70)}
	sha.Sum(pieces...)
	if len(pieces) != 3 || !bytes.Equal(pieces[0], counted(5)) || pieces[1] != nil || !bytes.Equal(pieces[2], counted(70)) {
		t.Error("the list of pieces is changed")
	}
}

// What comes out is new: who changes a Digest changes no other.
func TestDigestsAreApart(t *testing.T) {
	h := told(counted(40))
	d := h.Sum()
	for i := range d {
		d[i] = 0
	}
	if h.Sum() != want(counted(40)) {
		t.Error("a Digest that is changed changes the Hash")
	}
}
