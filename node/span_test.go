package node_test

import (
	"math"
	"math/rand"
	"slices"
	"testing"

	"sacristan/api"
	"sacristan/node"
)

// far is numbers that no file has a byte at.
var far = []int{math.MinInt, math.MinInt + 1, math.MinInt32, -257, -256, -255, -1, api.MaxSize + 1, api.MaxSize + 2, 1 << 20, math.MaxInt32, math.MaxInt - 255, math.MaxInt - 1, math.MaxInt}

// counts asks for how many blocks so many bytes have.
func counts(t *testing.T, size int, want int) {
	t.Helper()
	if got := node.Blocks(size); got != want {
		t.Errorf("%d bytes have %d blocks, not %d", size, got, want)
	}
}

// spans asks for just those.
func spans(t *testing.T, at int, n int, want ...api.Span) {
	t.Helper()
	if l := node.Spans(at, n); !slices.Equal(l, want) {
		t.Errorf("Spans of %d, %d are %v, not %v", at, n, l, want)
	}
}

// plain is the spans of bytes that are gone through one by one.
func plain(at int, n int) []api.Span {
	var l []api.Span
	for i := at; i < at+n; i++ {
		k, place := i/api.Body, i%api.Body
		if len(l) == 0 || l[len(l)-1].Block != k {
			l = append(l, api.Span{Block: k, From: place, To: place})
		}
		l[len(l)-1].To++
	}
	return l
}

func TestBlocks(t *testing.T) {
	for size, want := range map[int]int{math.MinInt: 0, math.MinInt32: 0, -256: 0, -1: 0, 0: 0, 1: 1, 2: 1, 255: 1, 256: 1, 257: 2, 511: 2, 512: 2, 513: 3, 17664: 69, 17665: 70, 17919: 70, 17920: 70, 17921: 70, 18177: 70, 1 << 32: 70, math.MaxInt - 254: 70, math.MaxInt: 70} {
		counts(t, size, want)
	}
	n := 0
	for size := range api.MaxSize + 1 {
		counts(t, size, n)
		if size%api.Body == 0 {
			n++
		}
	}
}

// The example of the chapter.
func TestExample(t *testing.T) {
	spans(t, 250, 10, api.Span{Block: 0, From: 250, To: 256}, api.Span{Block: 1, From: 0, To: 4})
}

func TestSpans(t *testing.T) {
	spans(t, 0, 1, api.Span{Block: 0, From: 0, To: 1})
	spans(t, 255, 1, api.Span{Block: 0, From: 255, To: 256})
	spans(t, 256, 1, api.Span{Block: 1, From: 0, To: 1})
	spans(t, 0, 256, api.Span{Block: 0, From: 0, To: 256})
	spans(t, 0, 257, api.Span{Block: 0, From: 0, To: 256}, api.Span{Block: 1, From: 0, To: 1})
	spans(t, 255, 258, api.Span{Block: 0, From: 255, To: 256}, api.Span{Block: 1, From: 0, To: 256}, api.Span{Block: 2, From: 0, To: 1})
	spans(t, 300, 20, api.Span{Block: 1, From: 44, To: 64})
	// Where it ends is not cut: just how many, and from where on, have an edge of their own.
	spans(t, api.MaxSize, 1, api.Span{Block: 70, From: 0, To: 1})
	spans(t, api.MaxSize-1, 3, api.Span{Block: 69, From: 255, To: 256}, api.Span{Block: 70, From: 0, To: 2})
	if l := node.Spans(api.MaxSize, api.MaxSize); len(l) != 70 || l[69] != (api.Span{Block: 139, From: 0, To: 256}) {
		t.Errorf("of the most they are %v", l)
	}
	if l := node.Spans(0, api.MaxSize); len(l) != 70 || l[0] != (api.Span{Block: 0, From: 0, To: 256}) {
		t.Errorf("of the whole they are %v", l)
	}
}

func TestSpansOfNone(t *testing.T) {
	for _, at := range append([]int{0, 1, 250, api.MaxSize}, far...) {
		for _, n := range append([]int{0}, far...) {
			spans(t, at, n)
			spans(t, n, 0)
		}
	}
	for _, at := range far {
		for _, n := range []int{1, 2, 256, api.MaxSize} {
			spans(t, at, n)
		}
	}
}

// They are as bytes that are gone through one by one.
func TestSpansAsPlainOnes(t *testing.T) {
	for at := range 520 {
		for n := 1; n < 530; n += 1 + at%3 {
			spans(t, at, n, plain(at, n)...)
		}
	}
	r := rand.New(rand.NewSource(13))
	for range 2000 {
		at, n := r.Intn(api.MaxSize+1), 1+r.Intn(api.MaxSize)
		spans(t, at, n, plain(at, n)...)
		// The bytes from the first on have as many blocks as Blocks tells.
		if l := node.Spans(0, n); len(l) != node.Blocks(n) {
			t.Errorf("%d bytes have %d spans, and %d blocks", n, len(l), node.Blocks(n))
		}
	}
}
