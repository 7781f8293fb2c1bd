package node_test

import (
	"bytes"
	"math/rand"
	"slices"
	"testing"

	"sacristan/api"
	"sacristan/node"
)

// drawn is a record that may be.
func drawn(r *rand.Rand) api.Inode {
	x := api.Inode{Kind: 1 + r.Intn(3), Links: r.Intn(65536), Size: r.Intn(api.MaxSize + 1), Index: r.Intn(4096)}
	for i := range x.Ptr {
		x.Ptr[i] = r.Intn(4096)
	}
	return x
}

// plainBytes is how a record is kept, by the words of the document alone.
func plainBytes(x api.Inode) []byte {
	var b []byte
	put := func(n int, wide int) {
		for i := wide - 1; i >= 0; i-- {
			b = append(b, byte(n>>(8*i)))
		}
	}
	put(x.Kind, 1)
	put(x.Links, 2)
	put(x.Size, 4)
	for _, p := range x.Ptr {
		put(p, 4)
	}
	put(x.Index, 4)
	for len(b) < 64 {
		b = append(b, 0)
	}
	return b
}

// What was written is read as it was, and kept as the document says.
func TestThereAndBack(t *testing.T) {
	r := rand.New(rand.NewSource(13))
	for range 5000 {
		x := drawn(r)
		may(t, x)
		if b, _ := node.Encode(x); !bytes.Equal(b, plainBytes(x)) {
			t.Fatalf("%v is kept as %x, not %x", x, b, plainBytes(x))
		}
	}
}

// Two records that are not the same are not kept as the same bytes.
func TestNoTwoAreOne(t *testing.T) {
	r := rand.New(rand.NewSource(31))
	kept := map[[api.Node]byte]api.Inode{}
	for range 5000 {
		x := drawn(r)
		b, _ := node.Encode(x)
		if y, ok := kept[[api.Node]byte(b)]; ok && y != x {
			t.Fatalf("%v and %v are one", x, y)
		}
		kept[[api.Node]byte(b)] = x
	}
}

// Whatever bytes come, nothing but what may be comes out, and it is what those bytes are.
func TestAnyBytes(t *testing.T) {
	r := rand.New(rand.NewSource(64))
	good := 0
	for range 20000 {
		b := plainBytes(drawn(r))
		for range r.Intn(3) {
			b[r.Intn(len(b))] ^= 1 << r.Intn(8)
		}
		x, e := node.Decode(b)
		switch {
		case e == api.OK && node.Right(x) && bytes.Equal(plainBytes(x), b):
			good++
		case e == api.ErrForm && x == api.Inode{}:
		default:
			t.Fatalf("%x is read as %v, %d", b, x, e)
		}
	}
	if good < 5000 || good > 19000 {
		t.Errorf("%d are read", good)
	}
}

// An index is read as it was written, whatever pointers it has.
func TestIndexThereAndBack(t *testing.T) {
	r := rand.New(rand.NewSource(65))
	for range 2000 {
		l := make([]int, r.Intn(api.Indexed+1))
		for i := range l {
			l[i] = r.Intn(4096)
		}
		points(t, l)
		b, _ := node.Index(l)
		b[r.Intn(len(b))] ^= 1 << r.Intn(8)
		p, e := node.Pointers(b)
		if again, _ := node.Index(p); e == api.OK && !bytes.Equal(again, b) || e != api.OK && (e != api.ErrForm || len(p) > 0) {
			t.Fatalf("%x is read as %v, %d", b, p, e)
		}
		if e == api.OK && slices.Max(p) > 4095 {
			t.Fatalf("%v are pointers", p)
		}
	}
}
