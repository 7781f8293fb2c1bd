package aes_test

import (
	"bytes"
	stdaes "crypto/aes"
	"crypto/cipher"
	"encoding/hex"
	"fmt"
	"math"
	"math/big"
	"math/rand"
	"testing"

	"sacristan/aes"
	"sacristan/api"
)

// counted is n bytes, each other than the one ahead of it.
func counted(n int) []byte {
	b := make([]byte, n)
	for i := range b {
		b[i] = byte(i%251 + 1)
	}
	return b
}

// sixteen are the bytes that text writes down.
func sixteen(t *testing.T, text string) [16]byte {
	t.Helper()
	b, err := hex.DecodeString(text)
	if err != nil || len(b) != 16 {
		t.Fatalf("%s are no 16 bytes", text)
	}
	return [16]byte(b)
}

// random is 16 bytes of r.
func random(r *rand.Rand) [16]byte {
	var b [16]byte
	r.Read(b[:])
	return b
}

// most is the greatest number of 128 bits.
func most() api.Nonce {
	var at api.Nonce
	for i := range at {
		at[i] = 0xff
	}
	return at
}

// wantBlock is what the library's own AES tells.
func wantBlock(t *testing.T, key api.Key, in api.Nonce) api.Nonce {
	t.Helper()
	c, err := stdaes.NewCipher(key[:])
	if err != nil {
		t.Fatal(err)
	}
	var out api.Nonce
	c.Encrypt(out[:], in[:])
	return out
}

// wantStream is n bytes of the library's own counter mode.
func wantStream(t *testing.T, key api.Key, at api.Nonce, n int) []byte {
	t.Helper()
	c, err := stdaes.NewCipher(key[:])
	if err != nil {
		t.Fatal(err)
	}
	b := make([]byte, n)
	cipher.NewCTR(c, at[:]).XORKeyStream(b, b)
	return b
}

// wantNext is at and n more, worked out by the library's own great numbers.
func wantNext(at api.Nonce, n int) api.Nonce {
	sum := new(big.Int).SetBytes(at[:])
	sum.Add(sum, big.NewInt(int64(max(n, 0))))
	sum.Mod(sum, new(big.Int).Lsh(big.NewInt(1), 128))
	var out api.Nonce
	sum.FillBytes(out[:])
	return out
}

// wantMul is the product of a and b as polynomials, and then what a division by the field's leaves.
func wantMul(a, b byte) byte {
	product := 0
	for i := range 8 {
		product ^= int(a) << i * (int(b) >> i & 1)
	}
	for i := 14; i >= 8; i-- {
		product ^= 0x11b << (i - 8) * (product >> i & 1)
	}
	return byte(product)
}

// The product of all pairs.
func TestMul(t *testing.T) {
	for a := range 256 {
		for b := range 256 {
			if p := aes.Mul(byte(a), byte(b)); p != wantMul(byte(a), byte(b)) {
				t.Fatalf("%02x times %02x is %02x, not %02x", a, b, p, wantMul(byte(a), byte(b)))
			}
		}
	}
}

func TestMulPublished(t *testing.T) {
	for _, x := range []struct{ a, b, product byte }{
		{0x57, 0x83, 0xc1}, {0x57, 0x13, 0xfe}, {0x57, 0x02, 0xae}, {0x57, 0x04, 0x47}, {0x57, 0x08, 0x8e}, {0x57, 0x10, 0x07}, {0x53, 0xca, 0x01}, {0x80, 0x02, 0x1b},
	} {
		if aes.Mul(x.a, x.b) != x.product || aes.Mul(x.b, x.a) != x.product {
			t.Errorf("%02x times %02x is %02x, and %02x the other way round, not %02x", x.a, x.b, aes.Mul(x.a, x.b), aes.Mul(x.b, x.a), x.product)
		}
	}
}

// 0 makes 0 of all, 1 lets all be as it is, and nothing else does.
func TestMulOfNoughtAndOne(t *testing.T) {
	for a := range 256 {
		c := byte(a)
		if aes.Mul(c, 0) != 0 || aes.Mul(0, c) != 0 || aes.Mul(c, 1) != c || aes.Mul(1, c) != c {
			t.Errorf("%02x times 0 or 1 is something else", c)
		}
		for b := 2; b < 256 && c != 0; b++ {
			if p := aes.Mul(c, byte(b)); p == 0 || p == c {
				t.Errorf("%02x times %02x is %02x", c, b, p)
			}
		}
	}
}

// The whole S-box, as the standard prints it.
func TestBox(t *testing.T) {
	published, err := hex.DecodeString("" +
		"637c777bf26b6fc53001672bfed7ab76ca82c97dfa5947f0add4a2af9ca472c0" +
		"b7fd9326363ff7cc34a5e5f171d8311504c723c31896059a071280e2eb27b275" +
		"09832c1a1b6e5aa0523bd6b329e32f8453d100ed20fcb15b6acbbe394a4c58cf" +
		"d0efaafb434d338545f9027f503c9fa851a3408f929d38f5bcb6da2110fff3d2" +
		"cd0c13ec5f974417c4a77e3d645d197360814fdc222a908846eeb814de5e0bdb" +
		"e0323a0a4906245cc2d3ac629195e479e7c8376d8dd54ea96c56f4ea657aae08" +
		"ba78252e1ca6b4c6e8dd741f4bbd8b8a703eb5664803f60e613557b986c11d9e" +
		"e1f8981169d98e949b1e87e9ce5528df8ca1890dbfe6426841992d0fb054bb16")
	if err != nil || len(published) != 256 {
		t.Fatal("the box is written down wrong")
	}
	for c, want := range published {
		if b := aes.Box(byte(c)); b != want {
			t.Errorf("the box of %02x is %02x, not %02x", c, b, want)
		}
	}
	if aes.Box(0) != 0x63 || aes.Box(0x53) != 0xed || aes.Box(1) != 0x7c || aes.Box(0xff) != 0x16 {
		t.Error("the examples are other ones")
	}
}

// The examples of FIPS 197 and of SP 800-38A.
func TestBlockPublished(t *testing.T) {
	const modes = "2b7e151628aed2a6abf7158809cf4f3c"
	for _, x := range []struct{ key, in, out string }{
		{"000102030405060708090a0b0c0d0e0f", "00112233445566778899aabbccddeeff", "69c4e0d86a7b0430d8cdb78070b4c55a"},
		{modes, "3243f6a8885a308d313198a2e0370734", "3925841d02dc09fbdc118597196a0b32"},
		{modes, "6bc1bee22e409f96e93d7e117393172a", "3ad77bb40d7a3660a89ecaf32466ef97"},
		{modes, "ae2d8a571e03ac9c9eb76fac45af8e51", "f5d3d58503b9699de785895a96fdbaaf"},
		{modes, "30c81c46a35ce411e5fbc1191a0a52ef", "43b1cd7f598ece23881b00e3ed030688"},
		{modes, "f69f2445df4f9b17ad2b417be66c3710", "7b0c785e27e8ad3f8223207104725dd4"},
		{"00000000000000000000000000000000", "00000000000000000000000000000000", "66e94bd4ef8a2c3b884cfa59ca342b2e"},
	} {
		if out := aes.New(sixteen(t, x.key)).Block(sixteen(t, x.in)); fmt.Sprintf("%x", out) != x.out {
			t.Errorf("by %s, of %s: %x, not %s", x.key, x.in, out, x.out)
		}
	}
}

// The counter mode's example of SP 800-38A, hidden and shown.
func TestXorPublished(t *testing.T) {
	c := aes.New(sixteen(t, "2b7e151628aed2a6abf7158809cf4f3c"))
	at := api.Nonce(sixteen(t, "f0f1f2f3f4f5f6f7f8f9fafbfcfdfeff"))
	shown, _ := hex.DecodeString("6bc1bee22e409f96e93d7e117393172aae2d8a571e03ac9c9eb76fac45af8e5130c81c46a35ce411e5fbc1191a0a52eff69f2445df4f9b17ad2b417be66c3710")
	hidden, _ := hex.DecodeString("874d6191b620e3261bef6864990db6ce9806f66b7970fdff8617187bb9fffdff5ae4df3edbd5d35e5b4f09020db03eab1e031dda2fbe03d1792170a0f3009cee")
	if len(shown) != 64 || len(hidden) != 64 {
		t.Fatal("the example is written down wrong")
	}
	for n := range len(shown) + 1 {
		if b := c.Xor(at, shown[:n]); !bytes.Equal(b, hidden[:n]) {
			t.Errorf("%d bytes are hidden as %x", n, b)
		}
		if b := c.Xor(at, hidden[:n]); !bytes.Equal(b, shown[:n]) {
			t.Errorf("%d bytes are shown as %x", n, b)
		}
	}
}

func TestBlockOfAny(t *testing.T) {
	r := rand.New(rand.NewSource(4))
	for range 3000 {
		key, in := random(r), random(r)
		if out := aes.New(key).Block(in); out != wantBlock(t, key, in) {
			t.Fatalf("by %x, of %x: %x", key, in, out)
		}
	}
	for _, key := range []api.Key{{}, api.Key(most())} {
		for _, in := range []api.Nonce{{}, most()} {
			if out := aes.New(key).Block(in); out != wantBlock(t, key, in) {
				t.Errorf("by %x, of %x: %x", key, in, out)
			}
		}
	}
}

// Each bit, of the key and of what is enciphered, by itself.
func TestBlockOfEachBit(t *testing.T) {
	for i := range 128 {
		var one [16]byte
		one[i/8] = 1 << (i % 8)
		if out := aes.New(one).Block(api.Nonce{}); out != wantBlock(t, one, api.Nonce{}) {
			t.Errorf("by %x, of noughts: %x", one, out)
		}
		if out := aes.New(api.Key{}).Block(one); out != wantBlock(t, api.Key{}, one) {
			t.Errorf("by noughts, of %x: %x", one, out)
		}
	}
}

// A Cipher never changes: neither by what it is asked, nor by another one (R4).
func TestCiphersAreApart(t *testing.T) {
	r := rand.New(rand.NewSource(5))
	keys := []api.Key{random(r), random(r), random(r)}
	var all []*aes.Cipher
	for _, key := range keys {
		all = append(all, aes.New(key))
	}
	for range 50 {
		in := api.Nonce(random(r))
		for i, c := range all {
			if c.Block(in) != wantBlock(t, keys[i], in) || c.Block(in) != wantBlock(t, keys[i], in) {
				t.Fatalf("of %x another block comes out the second time, or beside others", in)
			}
			c.Xor(in, c.Stream(in, 40))
		}
	}
	if aes.New(keys[0]) == aes.New(keys[0]) {
		t.Error("two Ciphers are one")
	}
}

// All places where a carry begins, and all where it ends.
func TestNext(t *testing.T) {
	for from := range 17 {
		for to := from; to <= 16; to++ {
			var at api.Nonce
			for i := from; i < to; i++ {
				at[i] = 0xff
			}
			for _, n := range []int{0, 1, 2, 15, 16, 255, 256, 257, 65535, 65536, 1 << 20, math.MaxInt32, math.MaxInt32 - 1} {
				if out := aes.Next(at, n); out != wantNext(at, n) {
					t.Errorf("%x and %d more is %x, not %x", at, n, out, wantNext(at, n))
				}
			}
		}
	}
}

func TestNextOfAny(t *testing.T) {
	r := rand.New(rand.NewSource(6))
	for range 3000 {
		at, n := api.Nonce(random(r)), int(r.Uint64()>>r.Intn(64))
		if out := aes.Next(at, n); out != wantNext(at, n) {
			t.Fatalf("%x and %d more is %x, not %x", at, n, out, wantNext(at, n))
		}
	}
}

func TestNextOfNoughtAndLess(t *testing.T) {
	for _, at := range []api.Nonce{{}, {15: 1}, {14: 1}, {0: 0x80}, most()} {
		for _, n := range []int{0, -1, -2, -256, math.MinInt32, math.MinInt} {
			if out := aes.Next(at, n); out != at {
				t.Errorf("%x and %d more is %x", at, n, out)
			}
		}
	}
}

// A number that passes 2^128 begins again at 0.
func TestNextPassesTheGreatest(t *testing.T) {
	if aes.Next(most(), 1) != (api.Nonce{}) || aes.Next(most(), 2) != (api.Nonce{15: 1}) || aes.Next(most(), 257) != (api.Nonce{14: 1}) {
		t.Error("behind the greatest number there is another one than 0")
	}
	for _, n := range []int{3, 1 << 20, math.MaxInt32, math.MaxInt} {
		if out := aes.Next(most(), n); out != wantNext(api.Nonce{}, n-1) {
			t.Errorf("the greatest number and %d more is %x", n, out)
		}
		// So does one whose lower half alone is full, a byte further up.
		at := api.Nonce{7: 5}
		copy(at[8:], bytes.Repeat([]byte{0xff}, 8))
		if out := aes.Next(at, n); out != wantNext(api.Nonce{7: 6}, n-1) {
			t.Errorf("%x and %d more is %x", at, n, out)
		}
	}
}

// One by one, or all at once: it is the same number.
func TestNextByPieces(t *testing.T) {
	at := most()
	at[15], at[14] = 0xf0, 0xfe
	step := at
	for n := range 1000 {
		if out := aes.Next(at, n); out != step {
			t.Fatalf("%x and %d more is %x, but one by one %x", at, n, out, step)
		}
		step = aes.Next(step, 1)
	}
}

// All lengths about the multiples of a block's.
func TestStream(t *testing.T) {
	key := api.Key(sixteen(t, "00102030405060708090a0b0c0d0e0f0"))
	c := aes.New(key)
	late := most()
	late[15] = 0xfe
	for _, at := range []api.Nonce{{}, {15: 0xfe}, {0: 1, 9: 7}, late, most()} {
		want := wantStream(t, key, at, 300)
		for n := range 300 {
			if b := c.Stream(at, n); !bytes.Equal(b, want[:n]) {
				t.Fatalf("from %x on, of %d bytes: %x", at, n, b)
			}
		}
	}
}

// Each 16 bytes of a stream are Block of a number one more than that ahead of it.
func TestStreamIsBlocks(t *testing.T) {
	c, at := aes.New(api.Key{1, 2, 3}), most()
	at[15] = 0xf9
	b := c.Stream(at, 16*40)
	for i := range 40 {
		if block := c.Block(aes.Next(at, i)); !bytes.Equal(b[16*i:16*i+16], block[:]) {
			t.Errorf("block %d is %x, not %x", i, b[16*i:16*i+16], block)
		}
	}
}

// n is clipped to 0 to MaxStream.
func TestStreamIsClipped(t *testing.T) {
	key, at := api.Key{9}, api.Nonce{15: 200}
	c := aes.New(key)
	for _, n := range []int{0, -1, -16, math.MinInt32, math.MinInt} {
		if b := c.Stream(at, n); len(b) != 0 {
			t.Errorf("of %d there are %d bytes", n, len(b))
		}
	}
	want := wantStream(t, key, at, api.MaxStream)
	for _, n := range []int{api.MaxStream - 17, api.MaxStream - 16, api.MaxStream - 1, api.MaxStream} {
		if b := c.Stream(at, n); !bytes.Equal(b, want[:n]) {
			t.Errorf("of %d there are %d bytes, or others", n, len(b))
		}
	}
	for _, n := range []int{api.MaxStream + 1, api.MaxStream + 16, 2 * api.MaxStream, math.MaxInt32, math.MaxInt} {
		if b := c.Stream(at, n); !bytes.Equal(b, want) {
			t.Errorf("of %d there are %d bytes, or others", n, len(b))
		}
	}
}

// Byte by byte what comes out is that of the stream, xored.
func TestXor(t *testing.T) {
	r := rand.New(rand.NewSource(7))
	for n := range 200 {
		key, at := api.Key(random(r)), api.Nonce(random(r))
		b := make([]byte, n)
		r.Read(b)
		c := aes.New(key)
		want := c.Stream(at, n)
		for i := range b {
			want[i] ^= b[i]
		}
		if x := c.Xor(at, b); !bytes.Equal(x, want) {
			t.Fatalf("%d bytes come out as %x", n, x)
		}
		if x := c.Xor(at, make([]byte, n)); !bytes.Equal(x, wantStream(t, key, at, n)) {
			t.Fatalf("%d noughts come out as %x", n, x)
		}
	}
}

// What was hidden is shown by the same key, and place (P8); and by no other.
func TestThereAndBack(t *testing.T) {
	r := rand.New(rand.NewSource(8))
	for range 200 {
		key, at := api.Key(random(r)), api.Nonce(random(r))
		b := make([]byte, 16+r.Intn(600))
		r.Read(b)
		hidden := aes.New(key).Xor(at, b)
		if bytes.Equal(hidden, b) {
			t.Fatal("nothing is hidden")
		}
		if !bytes.Equal(aes.New(key).Xor(at, hidden), b) {
			t.Fatalf("%d bytes are shown as others", len(b))
		}
		bit := r.Intn(128)
		other, elsewhere := key, at
		other[bit/8] ^= 1 << (bit % 8)
		elsewhere[bit/8] ^= 1 << (bit % 8)
		if bytes.Equal(aes.New(other).Xor(at, hidden), b) || bytes.Equal(aes.New(key).Xor(elsewhere, hidden), b) {
			t.Fatalf("bit %d of key, or place, makes no difference", bit)
		}
	}
}

// Of more than MaxStream bytes there is nothing, of just as many all.
func TestXorOfMany(t *testing.T) {
	key, at := api.Key{5}, api.Nonce{3, 15: 255}
	c := aes.New(key)
	for _, n := range []int{api.MaxStream - 1, api.MaxStream} {
		b := counted(n)
		x := c.Xor(at, b)
		want := wantStream(t, key, at, n)
		for i := range want {
			want[i] ^= b[i]
		}
		if !bytes.Equal(x, want) || !bytes.Equal(c.Xor(at, x), b) {
			t.Errorf("%d bytes come out as %d, or as others", n, len(x))
		}
	}
	for _, n := range []int{api.MaxStream + 1, api.MaxStream + 16, 2 * api.MaxStream} {
		if x := c.Xor(at, make([]byte, n)); len(x) != 0 {
			t.Errorf("of %d bytes there come %d", n, len(x))
		}
	}
}

func TestNothing(t *testing.T) {
	c := aes.New(api.Key{1})
	if len(c.Xor(api.Nonce{}, nil)) != 0 || len(c.Xor(api.Nonce{}, []byte{})) != 0 || len(c.Stream(api.Nonce{}, 0)) != 0 {
		t.Error("of nothing there comes something")
	}
}

// Of a nil Cipher there are noughts, or nothing.
func TestNilCipher(t *testing.T) {
	var none *aes.Cipher
	for _, at := range []api.Nonce{{}, {1, 2, 3}, most()} {
		if none.Block(at) != (api.Nonce{}) {
			t.Errorf("of %x it tells %x", at, none.Block(at))
		}
		for _, n := range []int{math.MinInt, -1, 0, 1, 16, 17, api.MaxStream, api.MaxStream + 1, math.MaxInt} {
			if b := none.Stream(at, n); len(b) != 0 {
				t.Errorf("it has a stream of %d bytes", len(b))
			}
		}
		for _, n := range []int{0, 1, 16, 17, api.MaxStream, api.MaxStream + 1} {
			if b := none.Xor(at, counted(n)); len(b) != 0 {
				t.Errorf("%d bytes come out as %d", n, len(b))
			}
		}
		if len(none.Xor(at, nil)) != 0 {
			t.Error("of nothing there comes something")
		}
	}
}

// A Cipher that New did not make tells something, and does not panic (P1).
func TestCipherOfNoughts(t *testing.T) {
	var c aes.Cipher
	b := c.Xor(most(), counted(33))
	if len(c.Stream(most(), 33)) != 33 || !bytes.Equal(c.Xor(most(), b), counted(33)) || c.Block(most()) != c.Block(most()) {
		t.Error("what it hides it does not show")
	}
}

// What is handed in is neither changed nor kept, and room behind it is not looked at (R2).
func TestNothingIsChanged(t *testing.T) {
	key, at := api.Key{1, 2}, api.Nonce{3, 4, 15: 255}
	c := aes.New(key)
	for _, n := range []int{0, 1, 16, 100} {
		room := counted(200)
		x := c.Xor(at, room[5:5+n])
		c.Block(at)
		c.Stream(at, n)
		aes.Next(at, n)
		if !bytes.Equal(room, counted(200)) || at != (api.Nonce{3, 4, 15: 255}) || key != (api.Key{1, 2}) {
			t.Errorf("of %d bytes: what was handed in is changed", n)
		}
		clear(room)
		if !bytes.Equal(c.Xor(at, x), counted(200)[5:5+n]) {
			t.Errorf("of %d bytes: what was handed in is kept", n)
		}
	}
	clear(key[:])
	if c.Block(at) != wantBlock(t, api.Key{1, 2}, at) {
		t.Error("the key is kept where another one changes it")
	}
}

// What comes out is new: who changes it, or fills the room behind it, changes nothing else.
func TestListsAreApart(t *testing.T) {
	key, at := api.Key{7}, api.Nonce{8}
	c := aes.New(key)
	fill := func(l []byte) {
		all := l[:cap(l)]
		for i := range all {
			all[i] ^= 0xff
		}
	}
	for _, n := range []int{1, 15, 16, 17, 100} {
		b := counted(n)
		one, two, three, four := c.Stream(at, n), c.Stream(at, n), c.Xor(at, b), c.Xor(at, b)
		fill(one)
		fill(three)
		if !bytes.Equal(two, wantStream(t, key, at, n)) || !bytes.Equal(c.Xor(at, four), b) || !bytes.Equal(b, counted(n)) {
			t.Errorf("of %d bytes two lists share some", n)
		}
	}
}
