package model

import (
	"maps"
	"slices"

	"sacristan/api"
	"sacristan/node"
)

// handle is whose a handle is.
func (m *Model) handle(h int) int {
	failIf(h < 0 || h >= len(m.open) || m.open[h] == 0, api.ErrHandle)
	return m.open[h]
}

func (m *Model) openFile(op api.Op) api.Result {
	n, x := m.find(op.Path, true)
	failIf(x.kind == api.Dir, api.ErrDir)
	h := slices.Index(m.open[:], 0)
	failIf(h < 0, api.ErrHandle)
	m.open[h] = n
	return api.Result{H: h}
}

func (m *Model) closeFile(op api.Op) api.Result {
	n := m.handle(op.H)
	m.open[op.H] = 0
	m.forget(n)
	return api.Result{}
}

func (m *Model) read(op api.Op) api.Result {
	x := m.inodes[m.handle(op.H)]
	failIf(op.At < 0 || op.N < 0, api.ErrArg)
	r := api.Result{}
	for _, s := range node.Spans(op.At, min(op.N, x.size-op.At)) {
		// Of one that is not there these are noughts.
		b := x.blocks[s.Block]
		r.Data = append(r.Data, b[s.From:s.To]...)
	}
	return r
}

func (m *Model) write(op api.Op) api.Result {
	n := m.handle(op.H)
	failIf(op.At < 0, api.ErrArg)
	if len(op.Data) == 0 {
		return api.Result{}
	}
	failIf(op.At > api.MaxSize-len(op.Data), api.ErrBig)
	x := m.change(n)
	x.blocks = maps.Clone(x.blocks)
	left := op.Data
	for _, s := range node.Spans(op.At, len(op.Data)) {
		b := x.blocks[s.Block]
		left = left[copy(b[s.From:s.To], left):]
		x.blocks[s.Block] = b
	}
	x.size = max(x.size, op.At+len(op.Data))
	return api.Result{}
}

func (m *Model) truncate(op api.Op) api.Result {
	n := m.handle(op.H)
	failIf(op.N < 0, api.ErrArg)
	failIf(op.N > api.MaxSize, api.ErrBig)
	x := m.change(n)
	x.blocks = maps.Clone(x.blocks)
	x.size = op.N
	maps.DeleteFunc(x.blocks, func(k int, _ [api.Body]byte) bool { return k >= node.Blocks(op.N) })
	// A size that rises again must not show what was cut off.
	if b, is := x.blocks[op.N/api.Body]; is {
		clear(b[op.N%api.Body:])
		x.blocks[op.N/api.Body] = b
	}
	return api.Result{}
}
