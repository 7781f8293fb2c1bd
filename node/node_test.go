package node_test

import (
	"bytes"
	"math"
	"slices"
	"testing"

	"sacristan/api"
	"sacristan/node"
)

// whole is a record of which each number is another one.
func whole() api.Inode {
	return api.Inode{Kind: api.Dir, Links: 0x0102, Size: 0x3456, Ptr: [6]int{0x101, 0x202, 0x303, 0x404, 0x505, 0x606}, Index: 0x708}
}

// wholeBytes is how whole is kept.
func wholeBytes() []byte {
	b := []byte{2, 1, 2, 0, 0, 0x34, 0x56, 0, 0, 1, 1, 0, 0, 2, 2, 0, 0, 3, 3, 0, 0, 4, 4, 0, 0, 5, 5, 0, 0, 6, 6, 0, 0, 7, 8}
	return append(b, make([]byte, api.Node-len(b))...)
}

// number is one of a record: where it is, and what is the most it may be.
type number struct {
	at   *int
	most int
}

// numbers is all of a record but its kind.
func numbers(x *api.Inode) []number {
	l := []number{{&x.Links, 65535}, {&x.Size, 17920}, {&x.Index, 4095}}
	for i := range x.Ptr {
		l = append(l, number{&x.Ptr[i], 4095})
	}
	return l
}

// tooMany is numbers that are above the most, or below 0.
func tooMany(most int) []int {
	return []int{math.MinInt, math.MinInt32, -256, -1, most + 1, most + 2, most + 1<<8, most + 1<<16, most + 1<<32, 1 << 33, 1 << 40, math.MaxInt}
}

// may asks that x is right, and is read as it was written.
func may(t *testing.T, x api.Inode) {
	t.Helper()
	if !node.Right(x) {
		t.Errorf("%v is not right", x)
	}
	b, e := node.Encode(x)
	if e != api.OK || len(b) != api.Node {
		t.Fatalf("Encode of %v is %x, %d", x, b, e)
	}
	if y, e := node.Decode(b); e != api.OK || y != x {
		t.Errorf("%v is read as %v, %d", x, y, e)
	}
}

// mayNot asks that x is neither right, nor written.
func mayNot(t *testing.T, x api.Inode) {
	t.Helper()
	if node.Right(x) {
		t.Errorf("%v is right", x)
	}
	if b, e := node.Encode(x); e != api.ErrArg || len(b) != 0 {
		t.Errorf("Encode of %v is %x, %d", x, b, e)
	}
}

// refused asks that b is no record.
func refused(t *testing.T, b []byte) {
	t.Helper()
	if x, e := node.Decode(b); e != api.ErrForm || x != (api.Inode{}) {
		t.Errorf("Decode of %x is %v, %d", b, x, e)
	}
}

// points asks that those are written as an index, and read with noughts behind them.
func points(t *testing.T, l []int, begin ...byte) {
	t.Helper()
	b, e := node.Index(l)
	if e != api.OK || len(b) != api.Body || !bytes.Equal(b[:len(begin)], begin) {
		t.Fatalf("Index of %v is %x, %d", l, b, e)
	}
	if len(bytes.Trim(b[4*len(l):], "\x00")) > 0 {
		t.Errorf("behind an index of %d there is %x", len(l), b[4*len(l):])
	}
	p, e := node.Pointers(b)
	if e != api.OK || len(p) != api.Indexed || !slices.Equal(p[:len(l)], l) || slices.Max(append(p[len(l):], 0)) != 0 {
		t.Errorf("%v is read as %v, %d", l, p, e)
	}
}

// pointsNot asks that those are not written.
func pointsNot(t *testing.T, l []int) {
	t.Helper()
	if b, e := node.Index(l); e != api.ErrArg || len(b) != 0 {
		t.Errorf("Index of %v is %x, %d", l, b, e)
	}
}

// noIndex asks that b is none.
func noIndex(t *testing.T, b []byte) {
	t.Helper()
	if l, e := node.Pointers(b); e != api.ErrForm || len(l) != 0 {
		t.Errorf("Pointers of %x are %v, %d", b, l, e)
	}
}

func TestRight(t *testing.T) {
	may(t, api.Inode{})
	for kind := api.File; kind <= api.Link; kind++ {
		may(t, api.Inode{Kind: kind})
		may(t, api.Inode{Kind: kind, Links: 65535, Size: api.MaxSize, Ptr: [6]int{4095, 4095, 4095, 4095, 4095, 4095}, Index: 4095})
	}
	may(t, whole())
}

// Each number is held against its own edges, of each kind.
func TestEdges(t *testing.T) {
	var x api.Inode
	for _, n := range numbers(&x) {
		for kind := api.File; kind <= api.Link; kind++ {
			for _, good := range []int{0, 1, n.most - 1, n.most} {
				x = api.Inode{Kind: kind}
				*n.at = good
				may(t, x)
			}
			for _, bad := range tooMany(n.most) {
				x = whole()
				x.Kind = kind
				*n.at = bad
				mayNot(t, x)
			}
		}
	}
}

// There are four kinds.
func TestKinds(t *testing.T) {
	for _, bad := range tooMany(api.Link) {
		x := whole()
		x.Kind = bad
		mayNot(t, x)
		mayNot(t, api.Inode{Kind: bad})
	}
}

// Of what is free there is nothing at all.
func TestFree(t *testing.T) {
	var x api.Inode
	for _, n := range numbers(&x) {
		for _, some := range append(tooMany(n.most), 1, 2, 255, n.most) {
			x = api.Inode{}
			*n.at = some
			mayNot(t, x)
		}
	}
	x = whole()
	x.Kind = api.Free
	mayNot(t, x)
}

func TestEncode(t *testing.T) {
	if b, e := node.Encode(whole()); e != api.OK || !bytes.Equal(b, wholeBytes()) {
		t.Errorf("it is kept as %x, %d", b, e)
	}
	if b, e := node.Encode(api.Inode{}); e != api.OK || !bytes.Equal(b, make([]byte, api.Node)) {
		t.Errorf("what is free is kept as %x, %d", b, e)
	}
	most := api.Inode{Kind: 3, Links: 65535, Size: 17920, Ptr: [6]int{4095, 4094, 4093, 4092, 4091, 4090}, Index: 4089}
	want := []byte{3, 0xff, 0xff, 0, 0, 70, 0, 0, 0, 15, 0xff, 0, 0, 15, 0xfe, 0, 0, 15, 0xfd, 0, 0, 15, 0xfc, 0, 0, 15, 0xfb, 0, 0, 15, 0xfa, 0, 0, 15, 0xf9}
	if b, e := node.Encode(most); e != api.OK || !bytes.Equal(b[:35], want) {
		t.Errorf("the most is kept as %x, %d", b, e)
	}
}

func TestDecode(t *testing.T) {
	if x, e := node.Decode(wholeBytes()); e != api.OK || x != whole() {
		t.Errorf("it is read as %v, %d", x, e)
	}
	if x, e := node.Decode(make([]byte, api.Node)); e != api.OK || x != (api.Inode{}) {
		t.Errorf("noughts are read as %v, %d", x, e)
	}
}

// Just so many bytes are a record.
func TestDecodeOfOtherLengths(t *testing.T) {
	refused(t, nil)
	for n := range 300 {
		if n == api.Node {
			continue
		}
		refused(t, make([]byte, n))
		refused(t, append(wholeBytes(), make([]byte, 300)...)[:n])
	}
	refused(t, make([]byte, 1<<20))
}

// What is read is just what would be written: whatever byte is another one, it is another record, or none.
func TestDecodeOfOtherBytes(t *testing.T) {
	for _, b := range [][]byte{wholeBytes(), make([]byte, api.Node)} {
		for i := range b {
			for v := range 256 {
				c := bytes.Clone(b)
				c[i] = byte(v)
				x, e := node.Decode(c)
				again, other := node.Encode(x)
				switch {
				case e == api.OK && (other != api.OK || !bytes.Equal(again, c)):
					t.Errorf("%x is read as %v", c, x)
				case e != api.OK && (e != api.ErrForm || x != (api.Inode{})):
					t.Errorf("of %x there is %v, %d", c, x, e)
				case e == api.OK && i >= 35 && v != 0:
					t.Errorf("byte %d is %d, and that is read", i, v)
				}
			}
		}
	}
}

// What may not be is not read, wherever in a record it stands.
func TestDecodeOfWhatMayNotBe(t *testing.T) {
	for i, v := range map[int]byte{0: 4, 3: 1, 4: 1, 5: 71, 7: 1, 8: 1, 9: 16, 29: 16, 31: 1, 32: 0x80, 33: 16, 35: 1, 36: 0x80, 62: 1, 63: 1} {
		b := wholeBytes()
		b[i] = v
		refused(t, b)
	}
	b := wholeBytes()
	b[5], b[6] = 70, 1
	refused(t, b)
	b = wholeBytes()
	b[0] = api.Free
	refused(t, b)
	for i := 1; i < api.Node; i++ {
		b := make([]byte, api.Node)
		b[i] = 1
		refused(t, b)
	}
	refused(t, bytes.Repeat([]byte{0xff}, api.Node))
	refused(t, bytes.Repeat([]byte{1}, api.Node))
}

func TestIndex(t *testing.T) {
	points(t, nil)
	points(t, []int{})
	points(t, []int{0})
	points(t, []int{1}, 0, 0, 0, 1, 0, 0, 0, 0)
	points(t, []int{4095, 0, 258}, 0, 0, 15, 255, 0, 0, 0, 0, 0, 0, 1, 2)
	l := make([]int, api.Indexed)
	for i := range l {
		l[i] = 4095 - 7*i
		points(t, l[:i+1])
		// None is told of another place, and one may stand there twice.
		one := make([]int, i+1)
		one[i] = 4095
		points(t, one)
	}
	points(t, slices.Repeat([]int{4095}, api.Indexed))
}

func TestIndexOfWhatMayNotBe(t *testing.T) {
	for _, bad := range []int{math.MinInt, math.MinInt32, -4095, -1, 4096, 4097, 65536, 1 << 32, 1<<32 + 1, 1 << 40, math.MaxInt} {
		for at := range api.Indexed {
			for n := at + 1; n <= api.Indexed; n += 9 {
				l := make([]int, n)
				l[at] = bad
				pointsNot(t, l)
			}
		}
	}
	for n := api.Indexed + 1; n < 300; n++ {
		pointsNot(t, make([]int, n))
	}
	pointsNot(t, slices.Repeat([]int{-1}, 65))
	pointsNot(t, make([]int, 1<<20))
}

func TestPointers(t *testing.T) {
	l, e := node.Pointers(make([]byte, api.Body))
	if e != api.OK || !slices.Equal(l, make([]int, api.Indexed)) {
		t.Errorf("of noughts they are %v, %d", l, e)
	}
	for i := range api.Indexed {
		for v := range 16 {
			b := make([]byte, api.Body)
			b[4*i+2], b[4*i+3] = byte(v), 0xa7
			want := make([]int, api.Indexed)
			want[i] = 256*v + 0xa7
			l, e := node.Pointers(b)
			again, _ := node.Index(l)
			if e != api.OK || !slices.Equal(l, want) || !bytes.Equal(again, b) {
				t.Errorf("of %x they are %v, %d", b, l, e)
			}
		}
	}
}

func TestPointersOfWhatMayNotBe(t *testing.T) {
	noIndex(t, nil)
	for n := range 700 {
		if n != api.Body {
			noIndex(t, make([]byte, n))
		}
	}
	noIndex(t, make([]byte, 1<<20))
	for i := range api.Indexed {
		for k, v := range map[int]byte{0: 1, 1: 1, 2: 16} {
			for _, bad := range []byte{v, 0x80, 0xff} {
				b := make([]byte, api.Body)
				b[4*i+k] = bad
				noIndex(t, b)
			}
		}
	}
}

// What is handed in is not changed, what comes out is new.
func TestNothingIsShared(t *testing.T) {
	b := append(wholeBytes(), make([]byte, 200)...)
	was := bytes.Clone(b)
	node.Decode(b[:api.Node])
	c, _ := node.Encode(whole())
	for i := range c {
		c[i] ^= 0xff
	}
	c = append(c, 1)
	if d, _ := node.Encode(whole()); !bytes.Equal(d, wholeBytes()) || !bytes.Equal(b, was) || len(c) != 65 {
		t.Error("what Encode tells is kept")
	}
	l := append(make([]int, 0, 99), 1, 2, 3)
	c, _ = node.Index(l)
	d, _ := node.Index(l)
	c = append(c[:4], 9, 9, 9, 9)
	if !slices.Equal(l[:9], []int{1, 2, 3, 0, 0, 0, 0, 0, 0}) || bytes.Equal(c, d[:8]) {
		t.Error("an index is shared")
	}
	was = bytes.Clone(d)
	p, _ := node.Pointers(d)
	q, _ := node.Pointers(d)
	p[0] = 77
	p = append(p, 78)
	if !bytes.Equal(d, was) || q[0] != 1 || len(p) != 65 {
		t.Error("pointers are shared")
	}
	s, r := node.Spans(0, 600), node.Spans(0, 600)
	s[0].Block = 77
	s = append(s[:1], api.Span{})
	if r[0].Block != 0 || r[1].Block != 1 || len(s) != 2 {
		t.Error("spans are shared")
	}
}
