package node

import (
	"iter"

	"sacristan/api"
	"sacristan/codec"
)

// How wide each number is kept.
const (
	kindWide    = 1
	linksWide   = 2
	sizeWide    = 4
	pointerWide = 4
)

// mostLinks is the greatest number that linksWide bytes can tell.
const mostLinks = 1<<(8*linksWide) - 1

// A record is a kind, links and a size, the pointers, and an index behind them.
const (
	firstPtr = 3
	indexAt  = firstPtr + api.Direct
)

// field is a number of a record: where it is, how wide it is kept, and what is the most it may be.
type field struct {
	at   *int
	wide int
	most int
}

// pointer is a field that tells a block, or none.
func pointer(at *int) field {
	return field{at, pointerWide, api.MaxBlocks - 1}
}

// fields is all of a record, in the order in which they are kept.
func fields(x *api.Inode) [indexAt + 1]field {
	l := [indexAt + 1]field{
		{&x.Kind, kindWide, api.Link},
		{&x.Links, linksWide, mostLinks},
		{&x.Size, sizeWide, api.MaxSize},
		indexAt: pointer(&x.Index),
	}
	for i := range x.Ptr {
		l[firstPtr+i] = pointer(&x.Ptr[i])
	}
	return l
}

// right tells whether what is there may be.
func (f field) right() bool {
	return 0 <= *f.at && *f.at <= f.most
}

// bytes is what is there, as it is kept.
func (f field) bytes() []byte {
	return codec.Put(uint64(*f.at), f.wide)
}

// read puts there what b begins with, and tells what is behind that.
func (f field) read(b []byte) []byte {
	*f.at = int(codec.Get(b[:f.wide]))
	return b[f.wide:]
}

// spans goes through the blocks that have any bytes from at to end - 1, and what each of them has.
func spans(at int, end int) iter.Seq[api.Span] {
	return func(yield func(api.Span) bool) {
		for k := at / api.Body; k*api.Body < end; k++ {
			first := k * api.Body
			if !yield(api.Span{Block: k, From: max(at-first, 0), To: min(end-first, api.Body)}) {
				return
			}
		}
	}
}
