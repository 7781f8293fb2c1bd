package model_test

import (
	"bytes"
	"math"
	"strings"
	"testing"

	"sacristan/api"
)

func TestOpen(t *testing.T) {
	a := filled(t, 20, 20)
	a.fails(api.ErrName, open(""), open("/\x00"), open(strings.Repeat("x", 28)))
	a.fails(api.ErrNone, open("/x"), open("/none"), open("/nobody/x"))
	a.fails(api.ErrNotDir, open("/f/x"), open("/lf/.."))
	a.fails(api.ErrLoop, open("/me"))
	a.fails(api.ErrDir, open("/"), open("/d"), open("/ld"), open("/d/e/.."))
	for h := range api.MaxHandles {
		a.tells(open([]string{"/f", "/lf", "/d/f", "/ld/f"}[h%4]), api.Result{H: h})
	}
	a.fails(api.ErrHandle, open("/f"), open("/ld/f"))
	// Ahead of that there is all else.
	a.fails(api.ErrDir, open("/"))
	a.fails(api.ErrNone, open("/x"))
	// The least one that is not open is the next one.
	for _, h := range []int{5, 2, 7} {
		a.does(closing(h))
		a.fails(api.ErrHandle, closing(h))
	}
	for _, h := range []int{2, 5, 7} {
		a.tells(open("/d/f"), api.Result{H: h})
	}
	a.fails(api.ErrHandle, open("/f"))
	a.does(closing(0), open("/f"), write(0, 0, "abc"))
	for h := range api.MaxHandles {
		want := "abc"
		if h%4 > 1 || h == 5 {
			want = ""
		}
		a.tells(read(h, 0, 9), api.Result{Data: []byte(want)})
	}
}

// A handle that is not open is none, whatever else is wrong.
func TestHandles(t *testing.T) {
	a := ask(t, 20, 20)
	a.does(create("/f"), open("/f"))
	for _, h := range []int{math.MinInt, -8, -1, 1, 7, 8, 9, 256, 1 << 32, math.MaxInt} {
		a.fails(api.ErrHandle, closing(h), read(h, 0, 1), read(h, -1, -1), write(h, 0, "a"), write(h, -1, ""), write(h, api.MaxSize, "a"), truncate(h, 0), truncate(h, -1), truncate(h, api.MaxSize+1))
	}
	a.has("/f", api.File, 0, 1, 0)
	a.does(closing(0))
	a.fails(api.ErrHandle, closing(0), read(0, 0, 1), write(0, 0, "a"), truncate(0, 0))
}

func TestRead(t *testing.T) {
	a := ask(t, 20, 20)
	a.does(create("/f"), open("/f"), write(0, 254, "abcdef"))
	whole := append(make([]byte, 254), "abcdef"...)
	for _, at := range []int{0, 1, 253, 254, 255, 256, 257, 259, 260, 261, 511, 512, api.MaxSize - 1, api.MaxSize, api.MaxSize + 1, math.MaxInt - 1, math.MaxInt} {
		for _, n := range []int{0, 1, 2, 3, 5, 6, 7, 256, 260, 261, api.MaxSize, api.MaxSize + 1, math.MaxInt - 1, math.MaxInt} {
			from := min(at, len(whole))
			a.tells(read(0, at, n), api.Result{Data: whole[from : from+min(n, len(whole)-from)]})
		}
		for _, n := range []int{-1, -256, math.MinInt} {
			a.fails(api.ErrArg, read(0, at, n), read(0, n, at), read(0, n, n))
		}
	}
	a.has("/f", api.File, 260, 1, 2)
}

func TestWrite(t *testing.T) {
	a := ask(t, 100, 20)
	a.does(create("/f"), open("/f"))
	// Without bytes there is nothing to be done, however far.
	for _, at := range []int{0, 1, 300, api.MaxSize, api.MaxSize + 1, math.MaxInt} {
		a.does(write(0, at, ""))
		a.has("/f", api.File, 0, 1, 0)
	}
	for _, at := range []int{-1, -256, math.MinInt} {
		a.fails(api.ErrArg, write(0, at, ""), write(0, at, "a"), write(0, at, strings.Repeat("a", api.MaxSize+1)))
	}
	a.fails(api.ErrBig, write(0, api.MaxSize, "a"), write(0, api.MaxSize-1, "ab"), write(0, math.MaxInt, "a"), write(0, math.MaxInt-1, "abc"), write(0, 0, strings.Repeat("a", api.MaxSize+1)), write(0, 1, strings.Repeat("a", api.MaxSize)), write(0, math.MaxInt, strings.Repeat("a", api.MaxSize)))
	a.has("/f", api.File, 0, 1, 0)
	a.does(write(0, api.MaxSize-1, "z"))
	a.has("/f", api.File, api.MaxSize, 1, 2)
	a.tells(read(0, api.MaxSize-2, 9), api.Result{Data: []byte("\x00z")})
	// What was written ahead of the end leaves the end where it is.
	a.does(write(0, 10, "abc"), write(0, 11, "BCD"))
	a.has("/f", api.File, api.MaxSize, 1, 3)
	a.tells(read(0, 9, 6), api.Result{Data: []byte("\x00aBCD\x00")})
	all := strings.Repeat("0123456789abcdef", api.MaxSize/16)
	a.does(write(0, 0, all))
	a.has("/f", api.File, api.MaxSize, 1, 71)
	a.tells(read(0, 0, api.MaxSize), api.Result{Data: []byte(all)})
	a.uses(2, 72)
}

// A write costs just the blocks that have any of its bytes, and one more where one is behind the direct ones.
func TestCostOfFile(t *testing.T) {
	for _, c := range []struct{ at, n, blocks int }{
		{0, 1, 1}, {0, 256, 1}, {0, 257, 2}, {255, 1, 1}, {255, 2, 2}, {256, 256, 1}, {1279, 2, 2}, {0, 1536, 6}, {1535, 1, 1}, {1535, 2, 3}, {1536, 1, 2}, {0, 1537, 8}, {1536, 256, 2}, {1536, 257, 3}, {1791, 2, 3}, {17664, 256, 2}, {17663, 2, 3}, {0, 17920, 71}, {1024, 700, 4},
	} {
		a := ask(t, 200, 4)
		a.does(create("/f"), open("/f"), write(0, c.at, strings.Repeat("a", c.n)))
		a.has("/f", api.File, c.at+c.n, 1, c.blocks)
		a.uses(2, 1+c.blocks)
		a.does(write(0, c.at, strings.Repeat("b", c.n)))
		a.has("/f", api.File, c.at+c.n, 1, c.blocks)
		// There is just room enough, or there is not.
		for room := range 1 + c.blocks {
			b := ask(t, room, 4)
			if room > 0 {
				b.does(create("/f"), open("/f"))
				b.fails(api.ErrSpace, write(0, c.at, strings.Repeat("a", c.n)))
				b.has("/f", api.File, 0, 1, 0)
			}
		}
		b := ask(t, 1+c.blocks, 4)
		b.does(create("/f"), open("/f"), write(0, c.at, strings.Repeat("a", c.n)))
		b.has("/f", api.File, c.at+c.n, 1, c.blocks)
	}
}

// Where no room is left, what is there may still be written, and nothing else is.
func TestWriteWithoutRoom(t *testing.T) {
	a := ask(t, 4, 4)
	a.does(create("/f"), open("/f"), write(0, 300, "abc"), write(0, 1600, "xyz"))
	a.has("/f", api.File, 1603, 1, 3)
	a.fails(api.ErrSpace, write(0, 0, "a"), write(0, 511, "ab"), write(0, 255, "ab"), write(0, 2000, "a"), write(0, 300, strings.Repeat("a", 300)), write(0, api.MaxSize-1, "a"))
	a.fails(api.ErrBig, write(0, api.MaxSize, "a"))
	a.has("/f", api.File, 1603, 1, 3)
	a.tells(read(0, 255, 260), api.Result{Data: append(append(make([]byte, 45), "abc"...), make([]byte, 212)...)})
	a.does(write(0, 256, strings.Repeat("b", 256)), write(0, 1700, "d"))
	a.has("/f", api.File, 1701, 1, 3)
	// The last one behind the direct ones takes the index with it.
	a.does(truncate(0, 1536))
	a.has("/f", api.File, 1536, 1, 1)
	a.does(write(0, 0, "a"), write(0, 600, "a"))
	a.fails(api.ErrSpace, write(0, 800, "a"), write(0, 1600, "a"))
}

func TestTruncate(t *testing.T) {
	a := ask(t, 100, 4)
	a.does(create("/f"), open("/f"))
	for _, n := range []int{-1, -256, math.MinInt} {
		a.fails(api.ErrArg, truncate(0, n))
	}
	for _, n := range []int{api.MaxSize + 1, 1 << 32, math.MaxInt} {
		a.fails(api.ErrBig, truncate(0, n))
	}
	// What is longer has nothing more that is there.
	a.does(truncate(0, api.MaxSize))
	a.has("/f", api.File, api.MaxSize, 1, 0)
	a.tells(read(0, 0, api.MaxSize), api.Result{Data: make([]byte, api.MaxSize)})
	all := strings.Repeat("0123456789abcdef", api.MaxSize/16)
	a.does(write(0, 0, all))
	size := api.MaxSize
	for _, c := range []struct{ n, blocks int }{{17920, 71}, {17919, 71}, {17665, 71}, {17664, 70}, {1793, 9}, {1792, 8}, {1537, 8}, {1536, 6}, {1535, 6}, {1300, 6}, {257, 2}, {256, 1}, {255, 1}, {1, 1}, {0, 0}} {
		a.does(truncate(0, c.n))
		a.has("/f", api.File, c.n, 1, c.blocks)
		a.uses(2, 1+c.blocks)
		a.tells(read(0, 0, size), api.Result{Data: []byte(all[:c.n])})
		// What was cut off is noughts, once it is longer again.
		a.does(truncate(0, size))
		a.has("/f", api.File, size, 1, c.blocks)
		a.tells(read(0, 0, size), api.Result{Data: append([]byte(all[:c.n]), make([]byte, size-c.n)...)})
		a.does(truncate(0, c.n))
		size = c.n
	}
	// A block that is not there stays so where it is cut.
	a.does(write(0, 1000, "abc"), truncate(0, 700))
	a.has("/f", api.File, 700, 1, 0)
	a.does(write(0, 300, "abc"), truncate(0, 701), write(0, 701, "d"))
	a.has("/f", api.File, 702, 1, 2)
	a.tells(read(0, 299, 403), api.Result{Data: append(append([]byte("\x00abc"), make([]byte, 398)...), 'd')})
}

// A file may be cut, and closed, where there is no room, and two handles are of one.
func TestTwoHandles(t *testing.T) {
	a := ask(t, 2, 4)
	a.does(create("/f"), open("/f"))
	a.tells(open("/f"), api.Result{H: 1})
	a.does(write(0, 0, "abcdef"))
	a.tells(read(1, 2, 2), api.Result{Data: []byte("cd")})
	a.does(truncate(1, 3))
	a.tells(read(0, 0, 9), api.Result{Data: []byte("abc")})
	a.fails(api.ErrSpace, write(1, 300, "x"))
	a.does(unlink("/f"), closing(0))
	a.tells(read(1, 0, 9), api.Result{Data: []byte("abc")})
	a.uses(2, 1)
	a.does(closing(1))
	a.uses(1, 0)
}

// What is handed in is not kept, what comes out is new.
func TestNothingIsShared(t *testing.T) {
	a := ask(t, 20, 20)
	data := append(make([]byte, 0, 99), "abc"...)
	a.does(create("/f"), open("/f"), api.Op{Kind: api.OpWrite, At: 2, Data: data}, symlink("text", "/l"))
	copy(data[:5], "XXXXX")
	for _, op := range []api.Op{read(0, 0, 9), readlink("/l"), list("/")} {
		r, s := a.m.Do(op), a.m.Do(op)
		was := append([]string(nil), s.Names...)
		for i := range r.Data {
			r.Data[i] ^= 0xff
		}
		for i := range r.Names {
			r.Names[i] = "X"
		}
		r.Data, r.Names = append(r.Data, 'X'), append(r.Names, "X")
		a.tells(op, s)
		if strings.Join(s.Names, "/") != strings.Join(was, "/") || bytes.IndexByte(s.Data, 'X') >= 0 {
			t.Errorf("%v tells what is shared", op)
		}
	}
	a.tells(read(0, 0, 9), api.Result{Data: []byte("\x00\x00abc")})
}
