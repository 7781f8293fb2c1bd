package sum_test

import (
	"bytes"
	"crypto/hmac"
	"crypto/sha256"
	"encoding/binary"
	"math"
	"math/big"
	"math/rand"
	"slices"
	"sync"
	"testing"

	"sacristan/api"
	"sacristan/mac"
	"sacristan/sum"
)

// one is the number 1.
var one = api.Digest{31: 1}

// counted is n bytes, each other than the one ahead of it.
func counted(n int) []byte {
	b := make([]byte, n)
	for i := range b {
		b[i] = byte(i%251 + 1)
	}
	return b
}

// full is a number whose bytes from one to the one ahead of another are ff, all others 0.
func full(from, to int) api.Digest {
	var d api.Digest
	for i := from; i < to; i++ {
		d[i] = 0xff
	}
	return d
}

// most is a number of ff alone.
func most() api.Digest { return full(0, 32) }

// random is a number of r; most bytes of one in two are ff or 0, so that much is carried.
func random(r *rand.Rand) api.Digest {
	var d api.Digest
	r.Read(d[:])
	if r.Intn(2) == 0 {
		return d
	}
	for i := range d {
		switch r.Intn(5) {
		case 0, 1:
			d[i] = 0
		case 2, 3:
			d[i] = 0xff
		}
	}
	return d
}

// number is what d is as one of the library's own great numbers.
func number(d api.Digest) *big.Int { return new(big.Int).SetBytes(d[:]) }

// modulo is n as a Digest, modulo 2^256.
func modulo(n *big.Int) api.Digest {
	var d api.Digest
	new(big.Int).Mod(n, new(big.Int).Lsh(big.NewInt(1), 256)).FillBytes(d[:])
	return d
}

func wantAdd(a, b api.Digest) api.Digest {
	return modulo(new(big.Int).Add(number(a), number(b)))
}

func wantSub(a, b api.Digest) api.Digest {
	return modulo(new(big.Int).Sub(number(a), number(b)))
}

// wantOf is what the library's own HMAC tells of a place in 8 bytes, and b.
func wantOf(key []byte, at int, b []byte) api.Digest {
	h := hmac.New(sha256.New, key)
	h.Write(binary.BigEndian.AppendUint64(nil, uint64(at)))
	h.Write(b)
	return api.Digest(h.Sum(nil))
}

// wantAll is what wantOf tells of all, added up by the library's own great numbers.
func wantAll(key []byte, l ...api.Item) api.Digest {
	gathered := new(big.Int)
	for _, x := range l {
		gathered.Add(gathered, number(wantOf(key, x.At, x.Bytes)))
	}
	return modulo(gathered)
}

// holds holds the sum, the difference and the order of two numbers against the library's own.
func holds(t *testing.T, a, b api.Digest) {
	t.Helper()
	if d := sum.Add(a, b); d != wantAdd(a, b) {
		t.Errorf("%x and %x are %x, not %x", a, b, d, wantAdd(a, b))
	}
	if d := sum.Sub(a, b); d != wantSub(a, b) {
		t.Errorf("%x less %x is %x, not %x", a, b, d, wantSub(a, b))
	}
	if l := sum.Less(a, b); l != (number(a).Cmp(number(b)) < 0) {
		t.Errorf("that %x is less than %x: %v", a, b, l)
	}
}

func TestAdd(t *testing.T) {
	for _, x := range []struct{ a, b, sum api.Digest }{
		{api.Digest{}, api.Digest{}, api.Digest{}},
		{api.Digest{31: 2}, api.Digest{31: 3}, api.Digest{31: 5}},
		{api.Digest{0: 1}, api.Digest{31: 3}, api.Digest{0: 1, 31: 3}},
		{api.Digest{31: 0xff}, one, api.Digest{30: 1}},
		{api.Digest{30: 1}, api.Digest{30: 0xff}, api.Digest{29: 1}},
		{api.Digest{0: 0x80}, api.Digest{0: 0x80}, api.Digest{}},
		{api.Digest{0: 0x80, 31: 1}, api.Digest{0: 0x80, 31: 1}, api.Digest{31: 2}},
	} {
		if sum.Add(x.a, x.b) != x.sum || sum.Add(x.b, x.a) != x.sum {
			t.Errorf("%x and %x are %x, and %x the other way round, not %x", x.a, x.b, sum.Add(x.a, x.b), sum.Add(x.b, x.a), x.sum)
		}
	}
}

// The example: a number of ff alone, and 1, are noughts. The way back is a difference below nought.
func TestFullNumber(t *testing.T) {
	if d := sum.Add(most(), one); d != (api.Digest{}) {
		t.Errorf("ff alone and 1 are %x", d)
	}
	if d := sum.Add(one, most()); d != (api.Digest{}) {
		t.Errorf("1 and ff alone are %x", d)
	}
	if d := sum.Sub(api.Digest{}, one); d != most() {
		t.Errorf("noughts less 1 are %x", d)
	}
	if d := sum.Add(most(), most()); d != sum.Sub(most(), one) || d[31] != 0xfe || d[0] != 0xff {
		t.Errorf("ff alone, twice, is %x", d)
	}
	if d := sum.Sub(most(), most()); d != (api.Digest{}) {
		t.Errorf("ff alone less itself is %x", d)
	}
	if d := sum.Sub(one, most()); d != (api.Digest{31: 2}) {
		t.Errorf("1 less ff alone is %x", d)
	}
}

// Noughts make no difference.
func TestNoughts(t *testing.T) {
	r := rand.New(rand.NewSource(1))
	for range 200 {
		a := random(r)
		if sum.Add(a, api.Digest{}) != a || sum.Add(api.Digest{}, a) != a || sum.Sub(a, api.Digest{}) != a || sum.Sub(a, a) != (api.Digest{}) {
			t.Errorf("noughts make a difference to %x", a)
		}
	}
}

// All places where a carry begins, and all where it ends, through words and between them.
func TestCarry(t *testing.T) {
	for from := range 33 {
		for to := from; to <= 32; to++ {
			a := full(from, to)
			for place := range 32 {
				var b api.Digest
				b[place] = 1
				holds(t, a, b)
				holds(t, b, a)
			}
			holds(t, a, a)
			holds(t, a, most())
			holds(t, most(), a)
		}
	}
}

// Each bit by itself: twice it is the next one, and what is less by 1 has all bits below it.
func TestEachBit(t *testing.T) {
	for i := range 256 {
		a := modulo(new(big.Int).Lsh(big.NewInt(1), uint(i)))
		if d := sum.Add(a, a); d != modulo(new(big.Int).Lsh(big.NewInt(1), uint(i)+1)) {
			t.Errorf("bit %d, twice, is %x", i, d)
		}
		if d := sum.Sub(a, one); d != wantSub(a, one) || sum.Add(d, one) != a {
			t.Errorf("bit %d less 1 is %x", i, d)
		}
		if d := sum.Sub(api.Digest{}, a); d != wantSub(api.Digest{}, a) || sum.Add(d, a) != (api.Digest{}) {
			t.Errorf("noughts less bit %d are %x", i, d)
		}
		for k := range 256 {
			b := modulo(new(big.Int).Lsh(big.NewInt(1), uint(k)))
			if sum.Less(a, b) != (i < k) {
				t.Errorf("that bit %d is less than bit %d: %v", i, k, sum.Less(a, b))
			}
		}
	}
}

func TestAnyNumbers(t *testing.T) {
	r := rand.New(rand.NewSource(2))
	for range 5000 {
		a, b, c := random(r), random(r), random(r)
		holds(t, a, b)
		if sum.Add(a, b) != sum.Add(b, a) || sum.Add(sum.Add(a, b), c) != sum.Add(a, sum.Add(b, c)) {
			t.Fatalf("of %x, %x and %x the order makes a difference", a, b, c)
		}
		if sum.Sub(sum.Add(a, b), b) != a || sum.Add(sum.Sub(a, b), b) != a {
			t.Fatalf("of %x and %x there is no way back", a, b)
		}
	}
}

// Of two numbers that differ just one is less, and the greatest byte that differs decides; none is less than itself.
func TestLess(t *testing.T) {
	r := rand.New(rand.NewSource(3))
	for range 300 {
		a := random(r)
		if sum.Less(a, a) {
			t.Fatalf("%x is less than itself", a)
		}
		for place := range 32 {
			b := a
			r.Read(b[place:])
			b[place] = a[place] + 1 + byte(r.Intn(255))
			if sum.Less(a, b) != (a[place] < b[place]) || sum.Less(b, a) != (b[place] < a[place]) {
				t.Fatalf("of %x and %x another is less than the one whose byte %d is", a, b, place)
			}
		}
	}
	if !sum.Less(api.Digest{}, most()) || sum.Less(most(), api.Digest{}) || sum.Less(api.Digest{}, api.Digest{}) || sum.Less(most(), most()) {
		t.Error("noughts, and ff alone, are in another order")
	}
	if !sum.Less(api.Digest{}, one) || !sum.Less(one, api.Digest{0: 1}) || sum.Less(api.Digest{0: 1}, one) {
		t.Error("another byte than the first is the greatest")
	}
}

// places are those that the library's own numbers have at their edges, beside ordinary ones.
func places() []int {
	return []int{0, 1, 2, 3, 255, 256, 4095, 1 << 20, math.MaxInt32, math.MaxInt32 + 1, math.MaxInt, -1, -2, -256, math.MinInt32, math.MinInt}
}

// All places, of all lengths of bytes and of keys about a block's.
func TestOf(t *testing.T) {
	for _, at := range places() {
		for _, n := range []int{0, 1, 31, 32, 55, 56, 63, 64, 65, 256, 1000} {
			for _, wide := range []int{0, 1, 16, 32, 63, 64, 65, 128, 300} {
				key, b := counted(wide), counted(n)
				if d := sum.Of(key, at, b); d != wantOf(key, at, b) {
					t.Errorf("by a key of %d bytes, of %d at %d: %x, not %x", wide, n, at, d, wantOf(key, at, b))
				}
			}
		}
	}
}

// It is a tag of the place in 8 bytes, the greatest first, and what is there.
func TestOfIsTag(t *testing.T) {
	key := []byte("key")
	for _, x := range []struct {
		at    int
		place []byte
	}{
		{0, []byte{0, 0, 0, 0, 0, 0, 0, 0}},
		{258, []byte{0, 0, 0, 0, 0, 0, 1, 2}},
		{math.MaxInt, []byte{0x7f, 255, 255, 255, 255, 255, 255, 255}},
		{-1, []byte{255, 255, 255, 255, 255, 255, 255, 255}},
		{-258, []byte{255, 255, 255, 255, 255, 255, 254, 254}},
		{math.MinInt, []byte{0x80, 0, 0, 0, 0, 0, 0, 0}},
	} {
		for _, b := range [][]byte{nil, {}, {7}, counted(256)} {
			if d := sum.Of(key, x.at, b); d != mac.Tag(key, x.place, b) {
				t.Errorf("of %d bytes at %d: %x, not %x", len(b), x.at, d, mac.Tag(key, x.place, b))
			}
		}
	}
}

// What is nil is what is empty (R6).
func TestNilAndEmpty(t *testing.T) {
	for _, at := range places() {
		want := wantOf(nil, at, nil)
		if sum.Of(nil, at, nil) != want || sum.Of([]byte{}, at, nil) != want || sum.Of(nil, at, []byte{}) != want || sum.Of([]byte{}, at, []byte{}) != want {
			t.Errorf("at %d, what is nil and what is empty are not the same", at)
		}
		if sum.All(nil, api.Item{At: at}) != want || sum.All([]byte{}, api.Item{At: at, Bytes: []byte{}}) != want {
			t.Errorf("of an Item at %d, what is nil and what is empty are not the same", at)
		}
	}
}

// Key, place and each byte make a difference; where the place ends, no byte passes for one of it.
func TestEachThingMatters(t *testing.T) {
	key, b := counted(40), counted(20)
	was := sum.Of(key, 5, b)
	for i := range len(key) * 8 {
		key[i/8] ^= 1 << (i % 8)
		if sum.Of(key, 5, b) == was || sum.All(key, api.Item{At: 5, Bytes: b}) == was {
			t.Errorf("bit %d of the key makes no difference", i)
		}
		key[i/8] ^= 1 << (i % 8)
	}
	for i := range len(b) * 8 {
		b[i/8] ^= 1 << (i % 8)
		if sum.Of(key, 5, b) == was || sum.All(key, api.Item{At: 5, Bytes: b}) == was {
			t.Errorf("bit %d of what is there makes no difference", i)
		}
		b[i/8] ^= 1 << (i % 8)
	}
	for i := range 64 {
		if at := 5 ^ 1<<i; sum.Of(key, at, b) == was || sum.All(key, api.Item{At: at, Bytes: b}) == was {
			t.Errorf("bit %d of the place makes no difference", i)
		}
	}
	if sum.Of(key, 5, append(b, 0)) == was || sum.Of(key, 5, b[:19]) == was || sum.Of(key, 0, nil) == sum.Of(key, 0, []byte{0}) {
		t.Error("how many bytes are there makes no difference")
	}
}

// Of none there are noughts, by whatever key.
func TestAllOfNone(t *testing.T) {
	for _, key := range [][]byte{nil, {}, {0}, counted(16), counted(64), counted(65)} {
		if sum.All(key) != (api.Digest{}) || sum.All(key, nil...) != (api.Digest{}) || sum.All(key, []api.Item{}...) != (api.Digest{}) {
			t.Errorf("by a key of %d bytes none is something", len(key))
		}
	}
}

// Of one there is what Of tells; the same twice is twice that, and not nothing.
func TestAllOfOneAndTwice(t *testing.T) {
	for _, key := range [][]byte{nil, counted(16), counted(64), counted(65), counted(200)} {
		for _, at := range places() {
			for _, n := range []int{0, 1, 256} {
				x := api.Item{At: at, Bytes: counted(n)}
				d := wantOf(key, at, x.Bytes)
				if sum.All(key, x) != d {
					t.Errorf("of one Item at %d: %x, not %x", at, sum.All(key, x), d)
				}
				twice := sum.All(key, x, x)
				if twice != wantAdd(d, d) || twice == (api.Digest{}) || twice == d {
					t.Errorf("of the same Item at %d, twice: %x", at, twice)
				}
				if sum.All(key, x, x, x) != wantAdd(twice, d) {
					t.Errorf("of the same Item at %d, three times, there is another sum", at)
				}
			}
		}
	}
}

// items are n Items of r, of which some are at one place and some are the same.
func items(r *rand.Rand, n int) []api.Item {
	l := make([]api.Item, n)
	for i := range l {
		b := make([]byte, r.Intn(300))
		r.Read(b)
		l[i] = api.Item{At: r.Intn(8) - 2, Bytes: b}
		if i > 0 && r.Intn(4) == 0 {
			l[i] = l[r.Intn(i)]
		}
	}
	return l
}

// In whatever order things are gathered, and in whatever parts, it is the same.
func TestAnyOrder(t *testing.T) {
	r := rand.New(rand.NewSource(4))
	for n := range 40 {
		key, l := counted(r.Intn(100)), items(r, n)
		want := wantAll(key, l...)
		for range 10 {
			r.Shuffle(len(l), func(i, k int) { l[i], l[k] = l[k], l[i] })
			if d := sum.All(key, l...); d != want {
				t.Fatalf("of %d Items in another order: %x, not %x", n, d, want)
			}
			cut := r.Intn(n + 1)
			if d := sum.Add(sum.All(key, l[:cut]...), sum.All(key, l[cut:]...)); d != want {
				t.Fatalf("of %d Items, gathered in two parts: %x, not %x", n, d, want)
			}
			if d := sum.Sub(want, sum.All(key, l[:cut]...)); d != sum.All(key, l[cut:]...) {
				t.Fatalf("of %d Items less the first %d: %x", n, cut, d)
			}
		}
		slices.Reverse(l)
		if sum.All(key, l...) != want {
			t.Fatalf("of %d Items, the other way round, there is another sum", n)
		}
	}
}

// All orders of a few.
func TestAllOrders(t *testing.T) {
	key := []byte("k")
	l := []api.Item{{At: 3, Bytes: []byte("ab")}, {At: -1}, {At: 3, Bytes: []byte("ba")}, {At: 3, Bytes: []byte("ab")}}
	want := wantAll(key, l...)
	for i := range 4 * 4 * 4 * 4 {
		a, b, c, d := i%4, i/4%4, i/16%4, i/64
		seen := [4]bool{}
		seen[a], seen[b], seen[c], seen[d] = true, true, true, true
		if seen == [4]bool{true, true, true, true} && sum.All(key, l[a], l[b], l[c], l[d]) != want {
			t.Errorf("in the order %d, %d, %d, %d there is another sum", a, b, c, d)
		}
	}
}

// One Item more or less, or one that differs, or two whose places or bytes are exchanged: another sum.
func TestEachItemMatters(t *testing.T) {
	r := rand.New(rand.NewSource(5))
	key, l := counted(32), items(r, 20)
	was := sum.All(key, l...)
	for i := range l {
		if sum.All(key, slices.Delete(slices.Clone(l), i, i+1)...) == was || sum.All(key, append(slices.Clone(l), l[i])...) == was {
			t.Errorf("that Item %d is there, or there once more, makes no difference", i)
		}
		other := slices.Clone(l)
		other[i].At++
		if sum.All(key, other...) == was {
			t.Errorf("the place of Item %d makes no difference", i)
		}
		other = slices.Clone(l)
		other[i].Bytes = append(slices.Clone(l[i].Bytes), 0)
		if sum.All(key, other...) == was {
			t.Errorf("the bytes of Item %d make no difference", i)
		}
	}
	a, b := []byte("a"), []byte("b")
	if sum.All(key, api.Item{At: 1, Bytes: a}, api.Item{At: 2, Bytes: b}) == sum.All(key, api.Item{At: 2, Bytes: a}, api.Item{At: 1, Bytes: b}) {
		t.Error("which of two is at which place makes no difference")
	}
}

// So many that what is carried leaves the greatest word again and again.
func TestAllOfMany(t *testing.T) {
	key := counted(64)
	l := make([]api.Item, 5000)
	for i := range l {
		l[i] = api.Item{At: i, Bytes: counted(i % 70)}
	}
	if d := sum.All(key, l...); d != wantAll(key, l...) {
		t.Errorf("of %d Items: %x", len(l), d)
	}
}

// What is handed in is neither changed nor kept, and room behind it is not looked at (R2).
func TestNothingIsChanged(t *testing.T) {
	keys, room := counted(200), counted(400)
	key, b := keys[3:103], room[5:205]
	l := []api.Item{{At: 2, Bytes: b}, {At: -7, Bytes: b[:10]}, {At: 2}}
	of, all := wantOf(key, 9, b), wantAll(key, l[:2]...)
	for range 2 {
		if sum.Of(key, 9, b) != of || sum.All(key, l[:2]...) != all {
			t.Error("the same is told otherwise the second time")
		}
	}
	if !bytes.Equal(keys, counted(200)) || !bytes.Equal(room, counted(400)) {
		t.Error("what was handed in is changed")
	}
	if len(l) != 3 || l[0].At != 2 || l[1].At != -7 || l[2].At != 2 || l[2].Bytes != nil || &l[0].Bytes[0] != &b[0] || len(l[1].Bytes) != 10 {
		t.Error("the list that was handed in is changed")
	}
	clear(room)
	clear(keys)
	if sum.Of(key, 9, b) != wantOf(key, 9, b) || sum.Of(key, 9, b) == of || sum.All(key, l[:2]...) != wantAll(key, l[:2]...) {
		t.Error("what was handed in is kept")
	}
	x, y := most(), api.Digest{31: 1}
	sum.Add(x, y)
	sum.Sub(y, x)
	sum.Less(x, y)
	if x != most() || y != one {
		t.Error("a number that was handed in is changed")
	}
}

// Nothing is kept from call to call: many at one time know nothing of one another.
func TestManyAtOnce(t *testing.T) {
	const many = 32
	var told [many]api.Digest
	var all sync.WaitGroup
	for i := range many {
		all.Go(func() {
			told[i] = sum.Sub(sum.All(counted(i), api.Item{At: i, Bytes: counted(i)}, api.Item{At: -i}), sum.Of(counted(i), -i, nil))
		})
	}
	all.Wait()
	for i, d := range told {
		if d != wantOf(counted(i), i, counted(i)) {
			t.Errorf("of the askers at one time, %d is told %x", i, d)
		}
	}
}
