package seal

import (
	"sacristan/api"
	"sacristan/codec"
	"sacristan/mac"
)

// What a record begins with, and the bytes of its fields.
const (
	mark       = "SEAL"
	numberWide = 8
	blocksWide = 4
	sumWide    = len(api.Digest{})
)

// write is the record of a Seal that is Right.
func write(key []byte, x api.Seal) []byte {
	var fields [][]byte
	put := func(l ...[]byte) { fields = append(fields, l...) }
	put([]byte(mark), codec.Put(x.Number, numberWide), codec.Put(uint64(x.Blocks), blocksWide), x.Slots)
	for i := range x.Sums {
		put(x.Sums[i][:])
	}
	tag := mac.Tag(key, fields...)
	put(tag[:])
	return codec.Join(fields...)
}

// read is what b tells in the places of a Seal's fields, whoever made it; what it lacks is not there.
func read(b []byte) api.Seal {
	rest := b
	cut := func(wide int) []byte {
		n := min(wide, len(rest))
		// A copy, not a piece of b: whoever changes the Seal changes nothing else.
		field := codec.Join(rest[:n])
		rest = rest[n:]
		return field
	}
	cut(len(mark))
	x := api.Seal{Number: codec.Get(cut(numberWide)), Blocks: int(codec.Get(cut(blocksWide)))}
	x.Slots = cut(groups(x.Blocks, bits))
	// No more Sums than bytes can be there for, however many blocks are told.
	for range min(Parts(x.Blocks), len(rest)/sumWide) {
		x.Sums = append(x.Sums, api.Digest(cut(sumWide)))
	}
	return x
}
