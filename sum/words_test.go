package sum

import (
	"testing"

	"sacristan/api"
)

// A number's words are its bytes, the least word first; and the way back is the same number.
func TestSplit(t *testing.T) {
	var d api.Digest
	for i := range d {
		d[i] = byte(i + 1)
	}
	w := split(d)
	if w != (words{0x191a1b1c1d1e1f20, 0x1112131415161718, 0x090a0b0c0d0e0f10, 0x0102030405060708}) {
		t.Errorf("the words are %016x", w)
	}
	if w.digest() != d || split(api.Digest{}) != (words{}) || (words{}).digest() != (api.Digest{}) {
		t.Error("the way back is another number")
	}
}

// What is carried out of each word is added to the next one, and what is borrowed taken from it.
func TestCarryOfWords(t *testing.T) {
	const full = ^uint64(0)
	if w := (words{full, full, full, full}).plus(words{1}); w != (words{}) {
		t.Errorf("a carry through all words leaves %x", w)
	}
	if w := (words{full, full, 6, 9}).plus(words{1, 0, 1}); w != (words{0, 0, 8, 9}) {
		t.Errorf("a carry through two words leaves %x", w)
	}
	if w := (words{1, 2, 3, 4}).plus(words{5, 6, 7, 8}); w != (words{6, 8, 10, 12}) {
		t.Errorf("without a carry there is %x", w)
	}
	if w, borrowed := (words{}).minus(words{1}); !borrowed || w != (words{full, full, full, full}) {
		t.Errorf("a borrow through all words leaves %x", w)
	}
	if w, borrowed := (words{0, 0, 8, 9}).minus(words{1, 0, 1}); borrowed || w != (words{full, full, 6, 9}) {
		t.Errorf("a borrow through two words leaves %x", w)
	}
	if w, borrowed := (words{6, 8, 10, 12}).minus(words{5, 6, 7, 8}); borrowed || w != (words{1, 2, 3, 4}) {
		t.Errorf("without a borrow there is %x", w)
	}
}

// Who stops asking for what Items come to is told no more.
func TestEachStops(t *testing.T) {
	key, l := []byte("k"), []api.Item{{At: 1}, {At: 2}, {At: 3}}
	n := 0
	for d := range each(key, l) {
		if d != Of(key, l[n].At, nil) {
			t.Errorf("Item %d comes to %x", n, d)
		}
		n++
		if n == 2 {
			break
		}
	}
	if n != 2 {
		t.Errorf("%d Items are told", n)
	}
	for d := range each(key, nil) {
		t.Errorf("of none there is %x", d)
	}
}
