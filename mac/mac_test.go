package mac_test

import (
	"bytes"
	"crypto/hmac"
	"crypto/sha256"
	"encoding/binary"
	"fmt"
	"math"
	"math/rand"
	"strings"
	"testing"

	"sacristan/api"
	"sacristan/mac"
)

// counted is n bytes, each other than the one ahead of it.
func counted(n int) []byte {
	b := make([]byte, n)
	for i := range b {
		b[i] = byte(i%251 + 1)
	}
	return b
}

// want is what the library's own HMAC tells.
func want(key []byte, b []byte) api.Digest {
	h := hmac.New(sha256.New, key)
	h.Write(b)
	return api.Digest(h.Sum(nil))
}

// wantDerived is n bytes of the library's own HMACs, told label and 1, 2, ...
func wantDerived(key []byte, label string, n int) []byte {
	var b []byte
	for i := uint32(1); len(b) < n; i++ {
		d := want(key, binary.BigEndian.AppendUint32([]byte(label), i))
		b = append(b, d[:]...)
	}
	return b[:n]
}

// The tags of RFC 4231 that are whole.
func TestPublished(t *testing.T) {
	long := bytes.Repeat([]byte{0xaa}, 131)
	for _, x := range []struct {
		key  []byte
		text string
		tag  string
	}{
		{bytes.Repeat([]byte{0x0b}, 20), "Hi There", "b0344c61d8db38535ca8afceaf0bf12b881dc200c9833da726e9376c2e32cff7"},
		{[]byte("Jefe"), "what do ya want for nothing?", "5bdcc146bf60754e6a042426089575c75a003f089d2739839dec58b964ec3843"},
		{bytes.Repeat([]byte{0xaa}, 20), strings.Repeat("\xdd", 50), "773ea91e36800e46854db8ebd09181a72959098b3ef8c122d9635514ced565fe"},
		{counted(25), strings.Repeat("\xcd", 50), "82558a389a443c0ea4cc819899f2083a85f0faa3e578f8077a2e3ff46729665b"},
		{long, "Test Using Larger Than Block-Size Key - Hash Key First", "60e431591ee0b67f0d8a26aacbf5b77f8e0bc6213728c5140546040f0ee37f54"},
		{long, "This is a test using a larger than block-size key and a larger than block-size data. The key needs to be hashed before being used by the HMAC algorithm.", "9b09ffa71b942fcb27635fbcd5b0e944bfdc63644f0713938a7f51535c3a35e2"},
	} {
		if d := mac.Tag(x.key, []byte(x.text)); fmt.Sprintf("%x", d) != x.tag {
			t.Errorf("of %.20q the tag is %x, not %s", x.text, d, x.tag)
		}
	}
}

// Keys of no byte, of just a block, and of more, beside all between.
func TestAllKeys(t *testing.T) {
	for n := range 200 {
		for _, m := range []int{0, 1, 50, 64, 200} {
			if d := mac.Tag(counted(n), counted(m)); d != want(counted(n), counted(m)) {
				t.Errorf("by a key of %d bytes, of %d, the tag is %x", n, m, d)
			}
		}
	}
}

func TestAllLengths(t *testing.T) {
	for n := range 300 {
		if d := mac.Tag([]byte("key"), counted(n)); d != want([]byte("key"), counted(n)) {
			t.Errorf("of %d bytes the tag is %x", n, d)
		}
	}
}

func TestNothing(t *testing.T) {
	for _, n := range []int{0, 1, 64, 65} {
		key := counted(n)
		none := want(key, nil)
		if mac.Tag(key) != none || mac.Tag(key, nil) != none || mac.Tag(key, []byte{}, nil, []byte{}) != none {
			t.Errorf("by a key of %d bytes the tag of nothing hangs on how it is told", n)
		}
		if !mac.Check(key, none[:]) || !mac.Check(key, none[:], nil, []byte{}) {
			t.Errorf("by a key of %d bytes the tag of nothing is none", n)
		}
	}
	var list [][]byte
	if mac.Tag(nil, list...) != mac.Tag([]byte{}) {
		t.Error("a list, or a key, that is nil is taken otherwise than an empty one")
	}
}

// In whatever pieces bytes come, their tag is the same; in another order it is not.
func TestPieces(t *testing.T) {
	r := rand.New(rand.NewSource(3))
	for range 300 {
		key, b := counted(r.Intn(150)), make([]byte, r.Intn(400))
		r.Read(b)
		var pieces [][]byte
		for rest := b; len(rest) > 0; {
			n := min(r.Intn(100), len(rest))
			pieces = append(pieces, rest[:n])
			rest = rest[n:]
		}
		d := want(key, b)
		if mac.Tag(key, pieces...) != d || !mac.Check(key, d[:], pieces...) {
			t.Fatalf("%d bytes in %d pieces have another tag", len(b), len(pieces))
		}
	}
	one, two := counted(70), []byte{9, 8, 7}
	if mac.Tag(one, one, two) == mac.Tag(one, two, one) {
		t.Error("the order of pieces makes no difference")
	}
}

// A tag is that of its key, and its bytes: each bit of both makes a difference.
func TestEachBitMatters(t *testing.T) {
	for _, n := range []int{1, 63, 64, 65, 130} {
		key, b := counted(n), counted(n)
		was := mac.Tag(key, b)
		for i := range n * 8 {
			key[i/8] ^= 1 << (i % 8)
			if mac.Tag(key, b) == was || mac.Check(key, was[:], b) {
				t.Errorf("of a key of %d bytes bit %d makes no difference", n, i)
			}
			key[i/8] ^= 1 << (i % 8)
			b[i/8] ^= 1 << (i % 8)
			if mac.Tag(key, b) == was || mac.Check(key, was[:], b) {
				t.Errorf("of %d bytes bit %d makes no difference", n, i)
			}
			b[i/8] ^= 1 << (i % 8)
		}
		if mac.Tag(key, b, []byte{0}) == was || mac.Tag(key, []byte{0}, b) == was || mac.Tag(key, b[1:]) == was {
			t.Errorf("beside %d bytes one more, or less, makes no difference", n)
		}
		if mac.Tag(b[:n-1], b) == was || mac.Tag(nil, key, b) == was {
			t.Errorf("of a key of %d bytes the last one, or that it is the key, makes no difference", n)
		}
	}
}

func TestCheck(t *testing.T) {
	for _, n := range []int{0, 5, 64, 65, 200} {
		key, b := counted(n), counted(90)
		d := want(key, b)
		tag := d[:]
		if !mac.Check(key, tag, b) || !mac.Check(key, tag, b[:40], nil, b[40:]) {
			t.Errorf("by a key of %d bytes the tag is taken for none", n)
		}
		for short := range tag {
			if mac.Check(key, tag[:short], b) || mac.Check(key, tag[short+1:], b) {
				t.Errorf("%d bytes of a tag are taken for one", short)
			}
		}
		for _, more := range []int{1, 8, 32, 224, 256} {
			if mac.Check(key, append(bytes.Clone(tag), make([]byte, more)...), b) || mac.Check(key, append(make([]byte, more), tag...), b) {
				t.Errorf("a tag that is %d bytes too long is taken for one", more)
			}
		}
		if mac.Check(key, append(bytes.Clone(tag), tag...), b) || mac.Check(key, nil, b) || mac.Check(key, make([]byte, 32), b) {
			t.Error("something else is taken for a tag")
		}
	}
}

func TestCheckEachBitOfTheTag(t *testing.T) {
	d := want([]byte("key"), []byte("text"))
	for i := range len(d) * 8 {
		other := d
		other[i/8] ^= 1 << (i % 8)
		if mac.Check([]byte("key"), other[:], []byte("text")) {
			t.Errorf("a tag is taken of which bit %d is another one", i)
		}
	}
	for one := range d {
		for two := range one {
			other := d
			other[one] ^= 0x80
			other[two] ^= 0x80
			if mac.Check([]byte("key"), other[:], []byte("text")) {
				t.Errorf("differences at %d and %d make up for one another", one, two)
			}
		}
	}
}

func TestCheckOfOthers(t *testing.T) {
	d := mac.Tag([]byte("key"), []byte("text"))
	for _, x := range []struct{ key, b string }{
		{"", "text"}, {"ke", "text"}, {"kez", "text"}, {"keyt", "ext"}, {"key", ""}, {"key", "tex"}, {"key", "texts"}, {"text", "key"},
	} {
		if mac.Check([]byte(x.key), d[:], []byte(x.b)) {
			t.Errorf("by %q the tag is taken for that of %q", x.key, x.b)
		}
	}
}

// All lengths about the multiples of a digest's, and those that are clipped.
func TestDerive(t *testing.T) {
	for _, key := range [][]byte{nil, []byte("k"), counted(64), counted(65)} {
		for n := range 1025 {
			if b := mac.Derive(key, "label", n); !bytes.Equal(b, wantDerived(key, "label", n)) {
				t.Fatalf("by a key of %d bytes, of %d: %x", len(key), n, b)
			}
		}
		for _, n := range []int{-1, -32, math.MinInt32, math.MinInt} {
			if b := mac.Derive(key, "label", n); len(b) != 0 {
				t.Errorf("of %d: %x", n, b)
			}
		}
		for _, n := range []int{1025, 1056, 2048, math.MaxInt32, math.MaxInt} {
			if b := mac.Derive(key, "label", n); !bytes.Equal(b, wantDerived(key, "label", 1024)) {
				t.Errorf("of %d there are %d bytes, or others", n, len(b))
			}
		}
	}
}

// What is derived, each 32 bytes, is Tag of key, label and a number of four bytes, from 1 on.
func TestDerivedAreTags(t *testing.T) {
	b := mac.Derive([]byte("k"), "l", 1024)
	for i := range 32 {
		if d := mac.Tag([]byte("k"), []byte("l"), []byte{0, 0, 0, byte(i + 1)}); !bytes.Equal(b[32*i:32*i+32], d[:]) {
			t.Errorf("at %d there is %x, not %x", i, b[32*i:32*i+32], d)
		}
	}
}

func TestLabels(t *testing.T) {
	labels := []string{"", "hide", "sum", "seal", "hidden", "\x00", "\x00\x00\x00\x01", "\xff\xfe", "é", strings.Repeat("long", 100)}
	seen := make(map[string]string)
	for _, label := range labels {
		b := mac.Derive([]byte("key"), label, 40)
		if !bytes.Equal(b, wantDerived([]byte("key"), label, 40)) {
			t.Errorf("of label %.20q: %x", label, b)
		}
		if other, ok := seen[string(b)]; ok {
			t.Errorf("labels %.20q and %.20q tell the same", label, other)
		}
		seen[string(b)] = label
	}
	if bytes.Equal(mac.Derive([]byte("key"), "", 16), mac.Derive([]byte("kez"), "", 16)) {
		t.Error("the key makes no difference")
	}
}

// What is handed in is neither changed nor looked at behind its end (R2).
func TestNothingIsChanged(t *testing.T) {
	for _, n := range []int{0, 10, 64, 65, 100} {
		keys, room := counted(300), counted(300)
		key, b := keys[7:7+n], room[3:203]
		pieces := [][]byte{b, nil, b[:5]}
		d := mac.Tag(key, pieces...)
		tag := append(bytes.Clone(d[:]), 1, 2, 3)
		if !mac.Check(key, tag[:32], pieces...) {
			t.Error("the tag is none where there is room behind it")
		}
		mac.Derive(key, "label", 100)
		if !bytes.Equal(keys, counted(300)) || !bytes.Equal(room, counted(300)) || !bytes.Equal(tag, append(bytes.Clone(d[:]), 1, 2, 3)) {
			t.Errorf("by a key of %d bytes: what was handed in is changed", n)
		}
		if len(pieces) != 3 || &pieces[0][0] != &b[0] || pieces[1] != nil || len(pieces[2]) != 5 {
			t.Error("the list of pieces is changed")
		}
		if d != want(bytes.Clone(key), append(bytes.Clone(b), b[:5]...)) {
			t.Errorf("by a key of %d bytes, with room behind it, the tag is another one", n)
		}
	}
}

// What comes out is new: who changes it, or fills the room behind it, changes nothing else.
func TestListsAreApart(t *testing.T) {
	key := counted(80)
	for _, n := range []int{1, 31, 32, 33, 1024} {
		one, two := mac.Derive(key, "label", n), mac.Derive(key, "label", n)
		for i := range one[:cap(one)] {
			one[:cap(one)][i] ^= 0xff
		}
		if !bytes.Equal(two, wantDerived(key, "label", n)) || !bytes.Equal(mac.Derive(key, "label", n), two) || !bytes.Equal(key, counted(80)) {
			t.Errorf("of %d bytes two lists share some", n)
		}
	}
}
