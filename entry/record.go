package entry

import (
	"slices"

	"sacristan/api"
	"sacristan/codec"
)

// How wide the numbers of an entry are kept.
const (
	lenWide  = 1
	nodeWide = 4
)

// How much there may be.
const (
	mostNode    = 65535
	mostEntries = api.MaxSize / api.Wide
)

// right tells whether a directory may have just those.
func right(l []api.Entry) bool {
	wrong := func(x api.Entry) bool {
		return !Named(x.Name) || x.Node < 1 || x.Node > mostNode
	}
	return len(l) <= mostEntries && rise(l) && !slices.ContainsFunc(l, wrong)
}

// kept is an entry's bytes.
func kept(x api.Entry) []byte {
	return codec.Join(
		codec.Put(uint64(len(x.Name)), lenWide),
		codec.Pad([]byte(x.Name), api.MaxName),
		codec.Put(uint64(x.Node), nodeWide),
	)
}

// read tells what b begins to tell: whether that is all of it has still to be asked.
func read(b []byte) (api.Entry, api.Errno) {
	f, e := codec.Cut(b, lenWide, api.MaxName, nodeWide)
	if e != api.OK {
		return api.Entry{}, e
	}
	n := min(int(codec.Get(f[0])), api.MaxName)
	return api.Entry{Name: string(f[1][:n]), Node: int(codec.Get(f[2]))}, api.OK
}
