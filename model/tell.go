package model

import "sacristan/api"

func (m *Model) list(op api.Op) api.Result {
	n, _ := m.find(op.Path, true)
	r := api.Result{}
	for _, x := range m.dir(n).entries {
		r.Names = append(r.Names, x.Name)
	}
	return r
}

func (m *Model) stat(op api.Op) api.Result {
	_, x := m.find(op.Path, op.N != 1)
	return api.Result{Stat: api.Stat{Kind: x.kind, Size: x.bytes(), Links: x.links, Blocks: x.cost()}}
}

func (m *Model) readlink(op api.Op) api.Result {
	_, x := m.find(op.Path, false)
	failIf(x.kind != api.Link, api.ErrArg)
	return api.Result{Data: []byte(x.text)}
}

func (m *Model) usage(api.Op) api.Result {
	return api.Result{Stat: api.Stat{N: len(m.inodes), Blocks: m.used(), Size: m.room, Links: m.nodes}}
}
