package entry_test

import (
	"bytes"
	"cmp"
	"math"
	"math/rand"
	"slices"
	"strings"
	"testing"

	"sacristan/api"
	"sacristan/entry"
)

// long is a name that has the most bytes it may.
var long = strings.Repeat("x", api.MaxName)

// goodNames are such as may be, badNames such as may not.
func goodNames() []string {
	return []string{"a", "A", " ", "...", "....", ".a", "a.", "..a", "a..", ". ", " .", ".\n", "\x01", "\x7f", "\x80", "\xff", "\xff\xfe", "\u00e9", "\u2044", "\uff0f", "\u012f", "\u0100", "\xc0\xaf", "\xc0\x80", "\\", ":", "*", "a\nb", ".-", long, long[:api.MaxName-1], strings.Repeat("\xff", api.MaxName), strings.Repeat(".", api.MaxName), strings.Repeat("\u20ac", 9)}
}

func badNames() []string {
	return []string{"", ".", "..", "/", "//", "a/", "/a", "a/b", "./", "../", "/.", "\x00", "a\x00", "\x00a", "a\x00b", ".\x00", "..\x00", "\u20ac/", "\xff\x00", "\xff/", "\xe2/", "\xe2\x82\x00", long + "x", long[1:] + "/", long[1:] + "\x00", long + "/", strings.Repeat("\u20ac", 10), strings.Repeat(".", api.MaxName+1), strings.Repeat("a", 1<<20)}
}

// oddNodes are such as no entry has.
func oddNodes() []int {
	return []int{math.MinInt, math.MinInt32, -65536, -65535, -1, 0, 65536, 65537, 1 << 24, 1 << 32, 1<<32 + 1, 1 << 40, math.MaxInt}
}

// three is a directory of three entries.
func three() []api.Entry {
	return []api.Entry{{Name: "a", Node: 1}, {Name: "bcd", Node: 0x1234}, {Name: long, Node: 65535}}
}

// many is a directory of n entries.
func many(n int) []api.Entry {
	var l []api.Entry
	for i := range n {
		l = append(l, api.Entry{Name: string([]byte{byte('a' + i/26), byte('a' + i%26)}), Node: i + 1})
	}
	return l
}

// there asks that l is written, and read as it was.
func there(t *testing.T, l []api.Entry) {
	t.Helper()
	b, e := entry.Encode(l)
	if e != api.OK || len(b) != len(l)*api.Wide {
		t.Fatalf("Encode of %v is %x, %d", l, b, e)
	}
	if m, e := entry.Decode(b); e != api.OK || !slices.Equal(l, m) {
		t.Errorf("%v is read as %v, %d", l, m, e)
	}
}

// notWritten asks that l is not.
func notWritten(t *testing.T, l []api.Entry) {
	t.Helper()
	if b, e := entry.Encode(l); e != api.ErrArg || len(b) != 0 {
		t.Errorf("Encode of %v is %x, %d", l, b, e)
	}
}

// notRead asks that b is no directory.
func notRead(t *testing.T, b []byte) {
	t.Helper()
	if l, e := entry.Decode(b); e != api.ErrForm || len(l) != 0 {
		t.Errorf("Decode of %x is %v, %d", b, l, e)
	}
}

// record is an entry as the chapter tells it, whether it may be or not.
func record(name string, node uint32) []byte {
	b := make([]byte, api.Wide)
	b[0] = byte(len(name))
	copy(b[1:28], name)
	b[28], b[29], b[30], b[31] = byte(node>>24), byte(node>>16), byte(node>>8), byte(node)
	return b
}

func TestNamed(t *testing.T) {
	for _, s := range goodNames() {
		if !entry.Named(s) {
			t.Errorf("%q is not", s)
		}
	}
	for _, s := range badNames() {
		if entry.Named(s) {
			t.Errorf("%q is", s[:min(len(s), 40)])
		}
	}
}

// Of all names of one byte, and of all bytes of a longer one, three and two may not be.
func TestNamedBytes(t *testing.T) {
	for c := range 256 {
		one, in := string([]byte{byte(c)}), string([]byte{'a', byte(c), 'b'})
		if entry.Named(one) != (c != 0 && c != '/' && c != '.') {
			t.Errorf("%q alone: %v", one, entry.Named(one))
		}
		if entry.Named(in) != (c != 0 && c != '/') {
			t.Errorf("%q: %v", in, entry.Named(in))
		}
	}
}

func TestEncode(t *testing.T) {
	want := "\x01a" + strings.Repeat("\x00", 26) + "\x00\x00\x00\x01"
	want += "\x03bcd" + strings.Repeat("\x00", 24) + "\x00\x00\x12\x34"
	want += "\x1b" + long + "\x00\x00\xff\xff"
	if b, e := entry.Encode(three()); e != api.OK || string(b) != want {
		t.Errorf("%q, %d", b, e)
	}
	there(t, three())
	there(t, nil)
	there(t, []api.Entry{})
}

func TestEncodeNames(t *testing.T) {
	for _, s := range goodNames() {
		for _, n := range []int{1, 2, 255, 256, 65534, 65535} {
			l := []api.Entry{{Name: s, Node: n}}
			there(t, l)
			if b, _ := entry.Encode(l); !bytes.Equal(b, record(s, uint32(n))) {
				t.Errorf("%v is kept as %x", l, b)
			}
		}
	}
	for _, s := range badNames() {
		notWritten(t, []api.Entry{{Name: s, Node: 1}})
		notWritten(t, []api.Entry{{Name: s, Node: 1}, {Name: "\xff\xff", Node: 2}})
		if s > "!" {
			notWritten(t, []api.Entry{{Name: "!", Node: 1}, {Name: s, Node: 2}})
		}
	}
}

func TestEncodeNodes(t *testing.T) {
	for _, n := range oddNodes() {
		for i := range 3 {
			l := three()
			l[i].Node = n
			notWritten(t, l)
		}
	}
	// A node may have many names.
	there(t, []api.Entry{{Name: "a", Node: 7}, {Name: "b", Node: 7}})
}

// Names rise by their bytes, each once.
func TestEncodeOrder(t *testing.T) {
	all := goodNames()
	slices.Sort(all)
	var l []api.Entry
	for i, s := range all {
		l = append(l, api.Entry{Name: s, Node: i + 1})
	}
	there(t, l)
	for i := 1; i < len(l); i++ {
		turned := slices.Clone(l)
		turned[i-1], turned[i] = turned[i], turned[i-1]
		notWritten(t, turned)
		notWritten(t, slices.Insert(slices.Clone(l), i, l[i]))
	}
	there(t, []api.Entry{{Name: "B", Node: 1}, {Name: "a", Node: 1}, {Name: "aa", Node: 1}, {Name: "\x80", Node: 1}})
}

// A directory has at most 560 entries.
func TestEncodeMost(t *testing.T) {
	for _, n := range []int{1, 8, 559, 560} {
		there(t, many(n))
	}
	for _, n := range []int{561, 562, 676} {
		notWritten(t, many(n))
	}
	var b []byte
	for _, x := range many(560) {
		b = append(b, record(x.Name, uint32(x.Node))...)
	}
	if l, e := entry.Decode(b); e != api.OK || !slices.Equal(l, many(560)) {
		t.Errorf("560 are read as %d, %d", len(l), e)
	}
	notRead(t, append(b, record("zz", 1)...))
	notRead(t, append(b, 0))
	notRead(t, make([]byte, 1<<22))
}

// Whatever byte of a directory is another one, it is refused, or written as it is read.
func TestDecodeBytes(t *testing.T) {
	whole, _ := entry.Encode(three())
	for i := range whole {
		for c := range 256 {
			b := bytes.Clone(whole)
			b[i] = byte(c)
			l, e := entry.Decode(b)
			if e == api.ErrForm && len(l) == 0 && b[i] != whole[i] {
				continue
			}
			if again, f := entry.Encode(l); e != api.OK || f != api.OK || !bytes.Equal(again, b) {
				t.Fatalf("byte %d as %d is read as %v, %d", i, c, l, e)
			}
		}
	}
}

func TestDecodeFields(t *testing.T) {
	// How many bytes there are is told right, whatever stands behind them.
	for n := range 256 {
		b := record("abc", 1)
		b[0] = byte(n)
		if n == 3 {
			continue
		}
		notRead(t, b)
	}
	for n := range 256 {
		b := record(long, 1)
		b[0] = byte(n)
		if n != api.MaxName {
			notRead(t, b)
		}
	}
	for _, n := range []uint32{0, 65536, 65537, 1 << 24, 1<<24 + 1, 1 << 31, 1<<31 + 1, math.MaxUint32, 0xffff0001} {
		notRead(t, record("a", n))
	}
	for i := 2; i < 28; i++ {
		b := record("a", 1)
		b[i] = 1
		notRead(t, b)
	}
	for _, s := range badNames() {
		if len(s) <= api.MaxName {
			notRead(t, record(s, 1))
		}
	}
	for _, s := range goodNames() {
		if l, e := entry.Decode(record(s, 65535)); e != api.OK || !slices.Equal(l, []api.Entry{{Name: s, Node: 65535}}) {
			t.Errorf("%q is read as %v, %d", s, l, e)
		}
	}
}

// It is entries, whole ones, that rise.
func TestDecodeWhole(t *testing.T) {
	b, _ := entry.Encode(three())
	for n := range b {
		if n%api.Wide != 0 {
			notRead(t, b[:n])
			notRead(t, b[n:])
			continue
		}
		if l, e := entry.Decode(b[:n]); e != api.OK || !slices.Equal(l, three()[:n/api.Wide]) {
			t.Errorf("%d bytes are read as %v, %d", n, l, e)
		}
	}
	notRead(t, append(bytes.Clone(b), 0))
	notRead(t, slices.Concat(b[32:], b[:32]))
	notRead(t, slices.Concat(b, b))
	notRead(t, slices.Concat(b[:32], b[:32]))
	notRead(t, make([]byte, api.Wide))
	if l, e := entry.Decode(nil); e != api.OK || len(l) != 0 {
		t.Errorf("of no byte: %v, %d", l, e)
	}
	if l, e := entry.Decode([]byte{}); e != api.OK || len(l) != 0 {
		t.Errorf("of no byte: %v, %d", l, e)
	}
}

// The chapter's example.
func TestExample(t *testing.T) {
	ac := []api.Entry{{Name: "a", Node: 1}, {Name: "c", Node: 3}}
	want := []api.Entry{{Name: "a", Node: 1}, {Name: "b", Node: 2}, {Name: "c", Node: 3}}
	if l, e := entry.Put(ac, api.Entry{Name: "b", Node: 2}); e != api.OK || !slices.Equal(l, want) {
		t.Errorf("%v, %d", l, e)
	}
	if l, e := entry.Put(ac, api.Entry{Name: "a", Node: 2}); e != api.ErrExist || len(l) != 0 {
		t.Errorf("%v, %d", l, e)
	}
}

func TestPutNames(t *testing.T) {
	for _, l := range [][]api.Entry{nil, three(), {{Name: "", Node: 1}, {Name: ".", Node: 1}, {Name: "/", Node: 1}}} {
		for _, s := range badNames() {
			// A name that may not be is told first, though it is there.
			if m, e := entry.Put(l, api.Entry{Name: s, Node: 1}); e != api.ErrName || len(m) != 0 {
				t.Errorf("%q is put: %v, %d", s[:min(len(s), 40)], m, e)
			}
		}
		for _, s := range goodNames() {
			m, e := entry.Put(l, api.Entry{Name: s, Node: 9})
			if _, is := entry.Find(l, s); is {
				if e != api.ErrExist || len(m) != 0 {
					t.Errorf("%q is there: %v, %d", s, m, e)
				}
				continue
			}
			if n, is := entry.Find(m, s); e != api.OK || len(m) != len(l)+1 || n != 9 || !is {
				t.Errorf("%q is put: %v, %d", s, m, e)
			}
		}
	}
}

// Nothing but the name is held against anything: neither how many there are, nor a node.
func TestPutAnything(t *testing.T) {
	for _, n := range append(oddNodes(), 1, 65535) {
		m, e := entry.Put(three(), api.Entry{Name: "aa", Node: n})
		if e != api.OK || len(m) != 4 || m[1] != (api.Entry{Name: "aa", Node: n}) {
			t.Errorf("%d: %v, %d", n, m, e)
		}
		if k, is := entry.Find(m, "aa"); k != n || !is {
			t.Errorf("%d is found as %d, %v", n, k, is)
		}
	}
	l := many(560)
	if m, e := entry.Put(l, api.Entry{Name: "zz", Node: 1}); e != api.OK || len(m) != 561 || m[560].Name != "zz" {
		t.Errorf("behind 560: %d, %d", len(m), e)
	}
	odd := []api.Entry{{Name: "/", Node: -1}, {Name: "", Node: 0}, {Name: "..", Node: 1 << 40}}
	if m, e := entry.Put(odd, api.Entry{Name: "a", Node: 1}); e != api.OK || !slices.Equal(m, append(slices.Clone(odd), api.Entry{Name: "a", Node: 1})) {
		t.Errorf("behind odd ones: %v, %d", m, e)
	}
	if n, is := entry.Find(odd, ".."); n != 1<<40 || !is {
		t.Errorf("found: %d, %v", n, is)
	}
	if n, is := entry.Find(odd, ""); n != 0 || !is {
		t.Errorf("found: %d, %v", n, is)
	}
	if m, is := entry.Drop(odd, ""); !is || !slices.Equal(m, []api.Entry{odd[0], odd[2]}) {
		t.Errorf("dropped: %v, %v", m, is)
	}
}

// plainly is a directory gone through one by one.
type plainly []api.Entry

func (p plainly) at(name string) int {
	return slices.IndexFunc(p, func(x api.Entry) bool { return x.Name == name })
}

func (p plainly) put(x api.Entry) ([]api.Entry, api.Errno) {
	if !entry.Named(x.Name) {
		return nil, api.ErrName
	}
	if p.at(x.Name) >= 0 {
		return nil, api.ErrExist
	}
	var l []api.Entry
	laid := false
	for _, y := range p {
		if !laid && y.Name > x.Name {
			l, laid = append(l, x), true
		}
		l = append(l, y)
	}
	if !laid {
		l = append(l, x)
	}
	return l, api.OK
}

func (p plainly) drop(name string) ([]api.Entry, bool) {
	i := p.at(name)
	if i < 0 {
		return p, false
	}
	return append(slices.Clone(p[:i]), p[i+1:]...), true
}

// sameAs asks that all that is told of l is what is told plainly.
func sameAs(t *testing.T, l []api.Entry, x api.Entry) {
	t.Helper()
	p := plainly(slices.Clone(l))
	n, is := entry.Find(l, x.Name)
	if i := p.at(x.Name); is != (i >= 0) || is && n != p[i].Node || !is && n != 0 {
		t.Fatalf("Find of %q in %v is %d, %v", x.Name, l, n, is)
	}
	put, e := entry.Put(l, x)
	if want, f := p.put(x); e != f || !slices.Equal(put, want) {
		t.Fatalf("Put of %v into %v is %v, %d, not %v, %d", x, l, put, e, want, f)
	}
	drop, did := entry.Drop(l, x.Name)
	if want, f := p.drop(x.Name); did != f || !slices.Equal(drop, want) {
		t.Fatalf("Drop of %q of %v is %v, %v, not %v, %v", x.Name, l, drop, did, want, f)
	}
	if !slices.Equal(l, p) {
		t.Fatalf("%v is made %v", p, l)
	}
}

// Any list, by any name, is told of as if it were gone through one by one.
func TestAnyList(t *testing.T) {
	r := rand.New(rand.NewSource(14))
	draw := func() api.Entry {
		return api.Entry{Name: []string{"", ".", "a", "aa", "ab", "b", "ba", "c", "\xff", "A"}[r.Intn(10)], Node: r.Intn(9) - 2}
	}
	for i := range 20000 {
		var l []api.Entry
		for range r.Intn(7) {
			l = append(l, draw())
		}
		if i%2 == 0 {
			slices.SortStableFunc(l, func(x, y api.Entry) int { return cmp.Compare(x.Name, y.Name) })
		}
		if i%4 == 0 {
			l = slices.CompactFunc(l, func(x, y api.Entry) bool { return x.Name == y.Name })
		}
		sameAs(t, l, draw())
	}
}

// What is laid and dropped stays a directory: its names rise, each once.
func TestStaysRight(t *testing.T) {
	r := rand.New(rand.NewSource(41))
	var l []api.Entry
	for range 3000 {
		x := api.Entry{Name: string([]byte{byte(1 + r.Intn(255)), byte(1 + r.Intn(4))}), Node: 1 + r.Intn(65535)}
		sameAs(t, l, x)
		if m, e := entry.Put(l, x); e == api.OK && len(m) <= 60 {
			l = m
		}
		if len(l) > 0 && r.Intn(3) == 0 {
			l, _ = entry.Drop(l, l[r.Intn(len(l))].Name)
		}
		there(t, l)
	}
}

// What comes out is new, and room behind it is nobody else's.
func TestNothingShared(t *testing.T) {
	room := append(make([]api.Entry, 0, 20), three()...)
	added, _ := entry.Put(room, api.Entry{Name: "b", Node: 2})
	behind, _ := entry.Put(room, api.Entry{Name: "y", Node: 2})
	dropped, _ := entry.Drop(room, "bcd")
	first, _ := entry.Drop(room, "a")
	last, _ := entry.Drop(room, long)
	whole, is := entry.Drop(room, "zz")
	if is || !slices.Equal(whole, room) {
		t.Errorf("without none: %v, %v", whole, is)
	}
	b, _ := entry.Encode(room)
	read, _ := entry.Decode(b)
	lists := [][]api.Entry{room, added, behind, dropped, first, last, whole, read}
	for i, l := range lists {
		others := make([][]api.Entry, len(lists))
		for k, m := range lists {
			others[k] = slices.Clone(m)
		}
		l = l[:cap(l)]
		for k := range l {
			l[k] = api.Entry{Name: "changed", Node: i}
		}
		for k, m := range lists {
			if k != i && !slices.Equal(m, others[k]) {
				t.Errorf("list %d is changed as list %d", k, i)
			}
		}
	}
	read, _ = entry.Decode(b)
	clear(b[:cap(b)])
	if !slices.Equal(read, three()) {
		t.Errorf("what was read is changed as its bytes: %v", read)
	}
	l := three()
	b, _ = entry.Encode(l)
	again, _ := entry.Encode(l)
	clear(b[:cap(b)])
	if m, e := entry.Decode(again); e != api.OK || !slices.Equal(m, l) {
		t.Errorf("bytes are changed as others: %v, %d", m, e)
	}
}

// Nothing that is handed in is changed.
func TestNothingChanged(t *testing.T) {
	l := three()
	b, _ := entry.Encode(l)
	was := bytes.Clone(b)
	entry.Decode(b)
	entry.Put(l, api.Entry{Name: "b", Node: 2})
	entry.Drop(l, "a")
	entry.Find(l, "a")
	if !slices.Equal(l, three()) || !bytes.Equal(b, was) {
		t.Errorf("%v, %x", l, b)
	}
}

// Of nothing there is nothing.
func TestNothing(t *testing.T) {
	for _, l := range [][]api.Entry{nil, {}} {
		if n, is := entry.Find(l, ""); n != 0 || is {
			t.Errorf("found: %d, %v", n, is)
		}
		if m, is := entry.Drop(l, "a"); len(m) != 0 || is {
			t.Errorf("dropped: %v, %v", m, is)
		}
		if m, e := entry.Put(l, api.Entry{Name: "a", Node: 5}); e != api.OK || !slices.Equal(m, []api.Entry{{Name: "a", Node: 5}}) {
			t.Errorf("put: %v, %d", m, e)
		}
	}
}
