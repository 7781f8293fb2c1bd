package block_test

import (
	"bytes"
	stdaes "crypto/aes"
	"crypto/cipher"
	"encoding/binary"
	"math"
	"math/rand"
	"slices"
	"sync"
	"testing"

	"sacristan/aes"
	"sacristan/api"
	"sacristan/block"
)

// whole is how many bytes a block has as it is kept.
const whole = 272

// epochs and seqs are the usual ones, and the edges.
var (
	epochs = []uint64{0, 1, 2, 255, 256, 1<<32 - 1, 1 << 32, 0x0102030405060708, 1 << 63, math.MaxUint64 - 1, math.MaxUint64}
	seqs   = []uint32{0, 1, 2, 15, 16, 255, 256, api.MaxSeq - 1, api.MaxSeq, 0x090a0b0c, 1 << 31, math.MaxUint32 - 1, math.MaxUint32}
)

// counted is n bytes, each other than the one ahead of it, none a nought.
func counted(n int) []byte {
	b := make([]byte, n)
	for i := range b {
		b[i] = byte(i%251 + 1)
	}
	return b
}

// random is n bytes of r.
func random(r *rand.Rand, n int) []byte {
	b := make([]byte, n)
	r.Read(b)
	return b
}

// wantHead is a head as the library's own package writes numbers.
func wantHead(epoch uint64, seq uint32) []byte {
	b := make([]byte, 16)
	binary.BigEndian.PutUint64(b, epoch)
	binary.BigEndian.PutUint32(b[8:], seq)
	return b
}

// wantStream is n bytes of the library's own counter mode.
func wantStream(t *testing.T, key api.Key, at []byte, n int) []byte {
	t.Helper()
	c, err := stdaes.NewCipher(key[:])
	if err != nil {
		t.Fatal(err)
	}
	b := make([]byte, n)
	cipher.NewCTR(c, at).XORKeyStream(b, b)
	return b
}

// wantHide is what a block has to be as it is kept.
func wantHide(t *testing.T, key api.Key, epoch uint64, seq uint32, body []byte) []byte {
	t.Helper()
	head := wantHead(epoch, seq)
	b := wantStream(t, key, head, 256)
	for i := range body {
		b[i] ^= body[i]
	}
	return slices.Concat(head, b)
}

// hide is a block that has to be hidden.
func hide(t *testing.T, key api.Key, epoch uint64, seq uint32, body []byte) []byte {
	t.Helper()
	b, e := block.Hide(key, epoch, seq, body)
	if e != api.OK {
		t.Fatalf("Hide of %d bytes at %d, %d tells %d", len(body), epoch, seq, e)
	}
	return b
}

func TestHead(t *testing.T) {
	for _, c := range []struct {
		epoch uint64
		seq   uint32
		want  api.Nonce
	}{
		{0, 0, api.Nonce{}},
		{1, 2, api.Nonce{7: 1, 11: 2}},
		{5, 7, api.Nonce{7: 5, 11: 7}},
		{0x0102030405060708, 0x090a0b0c, api.Nonce{1, 2, 3, 4, 5, 6, 7, 8, 9, 10, 11, 12}},
		{math.MaxUint64, 0, api.Nonce{255, 255, 255, 255, 255, 255, 255, 255}},
		{0, math.MaxUint32, api.Nonce{8: 255, 9: 255, 10: 255, 11: 255}},
		{1 << 32, 1 << 24, api.Nonce{3: 1, 8: 1}},
	} {
		if got := block.Head(c.epoch, c.seq); got != c.want {
			t.Errorf("Head(%d, %d) is %x, not %x", c.epoch, c.seq, got, c.want)
		}
	}
}

func TestHeadOfAll(t *testing.T) {
	for _, epoch := range epochs {
		for _, seq := range seqs {
			if got := block.Head(epoch, seq); !bytes.Equal(got[:], wantHead(epoch, seq)) {
				t.Errorf("Head(%d, %d) is %x", epoch, seq, got)
			}
		}
	}
}

// Bodies of each length that may be, and other keys and heads.
func TestHide(t *testing.T) {
	r := rand.New(rand.NewSource(7))
	for n := range 257 {
		key, body := api.Key(random(r, 16)), random(r, n)
		epoch, seq := epochs[n%len(epochs)], seqs[n%len(seqs)]
		got, e := block.Hide(key, epoch, seq, body)
		if e != api.OK || !bytes.Equal(got, wantHide(t, key, epoch, seq, body)) {
			t.Errorf("Hide of %d bytes at %d, %d is %x, %d", n, epoch, seq, got, e)
		}
	}
}

func TestHideAtAllHeads(t *testing.T) {
	key, body := api.Key{1, 2, 3}, counted(256)
	for _, epoch := range epochs {
		for _, seq := range seqs {
			if got := hide(t, key, epoch, seq, body); !bytes.Equal(got, wantHide(t, key, epoch, seq, body)) {
				t.Errorf("Hide at %d, %d is %x", epoch, seq, got)
			}
		}
	}
}

// A block that is hidden has 272 bytes, whatever its body's length is: that is hidden too.
func TestHideIsAsLongAsEver(t *testing.T) {
	for n := range 257 {
		if b := hide(t, api.Key{9}, 1, 1, counted(n)); len(b) != whole {
			t.Errorf("Hide of %d bytes has %d", n, len(b))
		}
	}
}

// A body that is shorter is hidden just as the same one with noughts behind it.
func TestHidePads(t *testing.T) {
	for n := range 257 {
		body := counted(n)
		padded := append(slices.Clone(body), make([]byte, 256-n)...)
		if !bytes.Equal(hide(t, api.Key{4}, 3, 2, body), hide(t, api.Key{4}, 3, 2, padded)) {
			t.Errorf("%d bytes are hidden otherwise than with noughts behind them", n)
		}
	}
}

func TestHideOfTooMany(t *testing.T) {
	for _, n := range []int{257, 258, 271, 272, 273, 512, 4096, api.MaxStream, api.MaxStream + 1} {
		for _, body := range [][]byte{make([]byte, n), counted(n)} {
			if b, e := block.Hide(api.Key{1}, 2, 3, body); len(b) != 0 || e != api.ErrForm {
				t.Errorf("Hide of %d bytes tells %d bytes, %d", n, len(b), e)
			}
		}
	}
}

func TestWhatWasHiddenIsShown(t *testing.T) {
	r := rand.New(rand.NewSource(8))
	for n := range 257 {
		key, body, epoch, seq := api.Key(random(r, 16)), random(r, n), r.Uint64(), r.Uint32()
		b := hide(t, key, epoch, seq, body)
		got, e := block.Show(key, b)
		if e != api.OK || len(got) != 256 || !bytes.Equal(got[:n], body) || !bytes.Equal(got[n:], make([]byte, 256-n)) {
			t.Fatalf("of %x is shown %x, %d", body, got, e)
		}
		if m, s, e := block.When(b); m != epoch || s != seq || e != api.OK {
			t.Fatalf("When of %d, %d tells %d, %d, %d", epoch, seq, m, s, e)
		}
	}
}

// Whatever has the form of a block is shown: there is no tag in it, and it may be anybody's.
func TestShowOfAnything(t *testing.T) {
	r := rand.New(rand.NewSource(9))
	for range 300 {
		key, b := api.Key(random(r, 16)), random(r, whole)
		clear(b[12:16])
		want := wantStream(t, key, b[:16], 256)
		for i := range want {
			want[i] ^= b[16+i]
		}
		if got, e := block.Show(key, b); e != api.OK || !bytes.Equal(got, want) {
			t.Fatalf("Show of %x is %x, %d, not %x", b, got, e, want)
		}
	}
}

// A block of noughts, as a world has it that was told nothing, has the form of one that was hidden at 0, 0.
func TestOfNoughts(t *testing.T) {
	b, key := make([]byte, whole), api.Key{3}
	if epoch, seq, e := block.When(b); epoch != 0 || seq != 0 || e != api.OK {
		t.Error(epoch, seq, e)
	}
	if got, e := block.Show(key, b); e != api.OK || !bytes.Equal(got, wantStream(t, key, b[:16], 256)) {
		t.Errorf("%x %d", got, e)
	}
}

func TestAnotherKeyShowsAnotherThing(t *testing.T) {
	body := counted(256)
	b := hide(t, api.Key{1}, 5, 7, body)
	for bit := range 128 {
		key := api.Key{1}
		key[bit/8] ^= 1 << (bit % 8)
		if got, e := block.Show(key, b); e != api.OK || len(got) != 256 || bytes.Equal(got, body) {
			t.Errorf("with bit %d of the key turned is shown %x, %d", bit, got, e)
		}
	}
}

func TestWhen(t *testing.T) {
	for _, epoch := range epochs {
		for _, seq := range seqs {
			b := append(wantHead(epoch, seq), counted(256)...)
			if m, s, e := block.When(b); m != epoch || s != seq || e != api.OK {
				t.Errorf("When of %d, %d tells %d, %d, %d", epoch, seq, m, s, e)
			}
		}
	}
}

// wantNothing holds When and Show of b against ErrForm, and nothing beside it.
func wantNothing(t *testing.T, b []byte) {
	t.Helper()
	if epoch, seq, e := block.When(b); epoch != 0 || seq != 0 || e != api.ErrForm {
		t.Errorf("When of %d bytes tells %d, %d, %d", len(b), epoch, seq, e)
	}
	if got, e := block.Show(api.Key{1}, b); len(got) != 0 || e != api.ErrForm {
		t.Errorf("Show of %d bytes tells %x, %d", len(b), got, e)
	}
}

// Each other length, with a head that would do.
func TestOfAnotherLength(t *testing.T) {
	all := append(wantHead(5, 7), counted(1000)...)
	for n := range len(all) {
		if n != whole {
			wantNothing(t, all[:n])
			wantNothing(t, make([]byte, n))
		}
	}
	wantNothing(t, nil)
	// The room behind a block is none of its bytes.
	if _, _, e := block.When(all[:whole]); e != api.OK {
		t.Errorf("When of a block with room behind it tells %d", e)
	}
	wantNothing(t, make([]byte, 0, whole))
}

// Each bit of the 13th to the 16th byte has to be 0; each bit of all others may be 1.
func TestEachBitOfABlock(t *testing.T) {
	for i := range whole {
		for bit := range 8 {
			b := make([]byte, whole)
			b[i] = 1 << bit
			if i >= 12 && i < 16 {
				wantNothing(t, b)
				continue
			}
			if _, _, e := block.When(b); e != api.OK {
				t.Errorf("bit %d of byte %d: When tells %d", bit, i, e)
			}
			if got, e := block.Show(api.Key{1}, b); len(got) != 256 || e != api.OK {
				t.Errorf("bit %d of byte %d: Show tells %d bytes, %d", bit, i, len(got), e)
			}
		}
	}
}

// Two bytes there that are the same, or make 256 together, are no noughts.
func TestTwoBytesMakeNoNought(t *testing.T) {
	for i := 12; i < 16; i++ {
		for k := i + 1; k < 16; k++ {
			for _, pair := range [][2]byte{{1, 1}, {1, 255}, {128, 128}, {255, 255}} {
				b := make([]byte, whole)
				b[i], b[k] = pair[0], pair[1]
				wantNothing(t, b)
			}
		}
	}
}

func TestInputs(t *testing.T) {
	for _, epoch := range epochs {
		for _, seq := range seqs {
			places := block.Inputs(epoch, seq)
			if len(places) != 16 {
				t.Fatalf("Inputs(%d, %d) has %d places", epoch, seq, len(places))
			}
			for i, p := range places {
				want := wantHead(epoch, seq)
				want[15] = byte(i)
				if !bytes.Equal(p[:], want) || p != aes.Next(block.Head(epoch, seq), i) {
					t.Errorf("place %d of Inputs(%d, %d) is %x", i, epoch, seq, p)
				}
			}
		}
	}
}

// The places that Inputs tells are those that hide a block, each 16 bytes of it, and there are no others.
func TestInputsHideTheBlock(t *testing.T) {
	r := rand.New(rand.NewSource(10))
	for range 50 {
		key, body, epoch, seq := api.Key(random(r, 16)), random(r, 256), r.Uint64(), r.Uint32()
		hidden := hide(t, key, epoch, seq, body)[16:]
		c, err := stdaes.NewCipher(key[:])
		if err != nil {
			t.Fatal(err)
		}
		places := block.Inputs(epoch, seq)
		if len(places)*16 != len(hidden) {
			t.Fatalf("%d places hide %d bytes", len(places), len(hidden))
		}
		for i, p := range places {
			c.Encrypt(p[:], p[:])
			for k, x := range p {
				if hidden[16*i+k] != body[16*i+k]^x {
					t.Fatalf("byte %d is not hidden by place %d of %d, %d", 16*i+k, i, epoch, seq)
				}
			}
		}
	}
}

// No place of a stream hides two blocks (P6).
func TestNoPlaceTwice(t *testing.T) {
	type when struct {
		epoch uint64
		seq   uint32
	}
	taken := map[api.Nonce]when{}
	take := func(epoch uint64, seq uint32) {
		for _, p := range block.Inputs(epoch, seq) {
			if w, ok := taken[p]; ok {
				t.Fatalf("place %x hides what is hidden at %d, %d, and at %d, %d", p, w.epoch, w.seq, epoch, seq)
			}
			taken[p] = when{epoch, seq}
		}
	}
	for epoch := range uint64(20) {
		for seq := range uint32(300) {
			take(epoch, seq)
		}
	}
	for _, epoch := range []uint64{1 << 16, 1 << 32, 1<<32 + 1, 1 << 63, math.MaxUint64 - 1, math.MaxUint64} {
		for _, seq := range seqs {
			take(epoch, seq)
		}
	}
}

// What is written makes no difference to what is told openly (P7): the head stays, and all bits that differ are those of the bodies.
func TestBodyMakesNoDifference(t *testing.T) {
	r := rand.New(rand.NewSource(11))
	for range 100 {
		key, epoch, seq := api.Key(random(r, 16)), r.Uint64(), r.Uint32()
		one, two := random(r, 256), random(r, r.Intn(257))
		a, b := hide(t, key, epoch, seq, one), hide(t, key, epoch, seq, two)
		if !bytes.Equal(a[:16], b[:16]) || len(a) != len(b) {
			t.Fatalf("heads %x and %x", a[:16], b[:16])
		}
		padded := append(two, make([]byte, 256-len(two))...)
		for i := range one {
			if a[16+i]^b[16+i] != one[i]^padded[i] {
				t.Fatalf("byte %d is hidden by one thing, and by another", i)
			}
		}
	}
}

// Nothing of a body is kept open, not even of one that is short or of noughts.
func TestBodyIsHidden(t *testing.T) {
	for _, body := range [][]byte{nil, make([]byte, 256), counted(256), counted(20)} {
		b := hide(t, api.Key{6}, 1, 1, body)
		if bytes.Contains(b[16:], make([]byte, 8)) || len(body) > 8 && bytes.Contains(b, body[:8]) {
			t.Errorf("%x is kept as %x", body, b)
		}
	}
}

// No two heads, and no two keys, hide a body alike.
func TestNoTwoAreHiddenAlike(t *testing.T) {
	body, seen := counted(256), map[string]int{}
	keep := func(b []byte) { seen[string(b[16:])]++ }
	n := 0
	for _, epoch := range epochs {
		for _, seq := range seqs {
			keep(hide(t, api.Key{1}, epoch, seq, body))
			keep(hide(t, api.Key{2}, epoch, seq, body))
			n += 2
		}
	}
	if len(seen) != n {
		t.Errorf("of %d blocks %d are other ones", n, len(seen))
	}
}

// What is handed in stays, the room behind it too, and what comes out shares no memory with it (R2).
func TestNothingIsShared(t *testing.T) {
	key := api.Key{1, 2}
	arg := counted(300)
	b := hide(t, key, 5, 7, arg[10:20])
	if !bytes.Equal(arg, counted(300)) {
		t.Fatal("Hide changed what was handed in")
	}
	if !bytes.Equal(b, wantHide(t, key, 5, 7, arg[10:20])) {
		t.Fatal("Hide looked at the room behind its body")
	}
	full := hide(t, key, 5, 8, arg[:256])
	around := append(append([]byte{9}, b...), 9, 9, 9)
	before := slices.Clone(around)
	shown, e := block.Show(key, around[1:1+whole])
	if e != api.OK || !bytes.Equal(around, before) {
		t.Fatalf("Show changed what was handed in, or tells %d", e)
	}
	if _, _, e := block.When(around[1 : 1+whole]); e != api.OK || !bytes.Equal(around, before) {
		t.Fatalf("When changed what was handed in, or tells %d", e)
	}
	again, _ := block.Show(key, b)
	outs := [][]byte{b, full, hide(t, key, 5, 7, arg[10:20]), shown, again, arg, around}
	for i := range outs {
		was := make([][]byte, len(outs))
		for k := range outs {
			was[k] = slices.Clone(outs[k])
		}
		room := outs[i][:cap(outs[i])]
		for k := range room {
			room[k] ^= 0xff
		}
		for k := range outs {
			if k != i && !bytes.Equal(outs[k], was[k]) {
				t.Fatalf("lists %d and %d share", i, k)
			}
		}
		copy(outs[i], was[i])
	}
}

// A list of places is nobody else's (R2).
func TestPlacesAreNotShared(t *testing.T) {
	one, two := block.Inputs(1, 2), block.Inputs(1, 2)
	one = one[:cap(one)]
	for i := range one {
		one[i] = api.Nonce{0xee}
	}
	for i, p := range two {
		if p != aes.Next(block.Head(1, 2), i) {
			t.Errorf("place %d is %x now", i, p)
		}
	}
	if three := block.Inputs(1, 2); !slices.Equal(three, two) {
		t.Errorf("the places are %x now", three)
	}
}

// A list that is nil and one that is empty are the same thing (R6).
func TestNilIsEmpty(t *testing.T) {
	if !bytes.Equal(hide(t, api.Key{1}, 2, 3, nil), hide(t, api.Key{1}, 2, 3, []byte{})) {
		t.Error("nil is hidden otherwise than none")
	}
	wantNothing(t, nil)
	wantNothing(t, []byte{})
}

// Many at one time tell what one alone tells.
func TestManyAtOneTime(t *testing.T) {
	var group sync.WaitGroup
	for i := range 16 {
		want := wantHide(t, api.Key{byte(i)}, uint64(i), uint32(i), counted(16*i))
		group.Go(func() {
			for range 50 {
				b, e := block.Hide(api.Key{byte(i)}, uint64(i), uint32(i), counted(16*i))
				if e != api.OK || !bytes.Equal(b, want) {
					t.Errorf("Hide of number %d tells %x, %d", i, b, e)
				}
				if got, e := block.Show(api.Key{byte(i)}, b); e != api.OK || !bytes.Equal(got[:16*i], counted(16*i)) {
					t.Errorf("Show of number %d tells %x, %d", i, got, e)
				}
			}
		})
	}
	group.Wait()
}
