package world

import (
	"bytes"

	"sacristan/api"
)

// note traces something that was done.
func (w *World) note(kind, at, slot int, b []byte) {
	w.trace = append(w.trace, traced(kind, at, slot, b))
}

// traced is something that was done, with just those fields that its kind has; its bytes are a copy.
func traced(kind, at, slot int, b []byte) api.Trace {
	var t api.Trace
	switch kind {
	case api.DidRead, api.DidWrite:
		t.Slot = slot
		fallthrough
	case api.DidLook, api.DidSeal:
		t.At, t.Bytes = at, bytes.Clone(b)
		fallthrough
	case api.DidBump:
		t.Kind = kind
	}
	return t
}
