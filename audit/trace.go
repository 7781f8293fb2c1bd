package audit

import (
	"bytes"
	"iter"

	"sacristan/api"
	"sacristan/codec"
)

// slotBytes is how many bytes a slot has.
const slotBytes = api.Head + api.Body

// place is which slot, of which block.
type place struct{ at, slot int }

// kept is what a slot has behind the last write to it; noughts, if there was none.
func kept(last *api.Trace) []byte {
	var b []byte
	if last != nil {
		// It is cut ahead of the copy that Pad makes: what was handed in may be far longer than a slot.
		b = last.Bytes[:min(len(last.Bytes), slotBytes)]
	}
	return codec.Pad(b, slotBytes)
}

// rows tells pieces of t: one up to each bump, and what is left behind the last one.
func rows(t []api.Trace) iter.Seq[[]api.Trace] {
	return func(yield func([]api.Trace) bool) {
		left := t
	telling:
		for {
			for i, x := range left {
				if x.Kind != api.DidBump {
					continue
				}
				if !yield(left[:i+1]) {
					return
				}
				left = left[i+1:]
				continue telling
			}
			yield(left)
			return
		}
	}
}

// apart is a row that shares nothing with l.
func apart(l []api.Trace) []api.Trace {
	row := make([]api.Trace, len(l))
	for i, x := range l {
		x.Bytes = bytes.Clone(x.Bytes)
		row[i] = x
	}
	return row
}
