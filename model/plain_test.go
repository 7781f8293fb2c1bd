package model_test

import (
	"slices"
	"strings"

	"sacristan/api"
)

// thing is an inode of a plain model: it knows what it stands in, and all bytes of a file stand one behind the other.
type thing struct {
	kind  int
	links int
	above *thing
	names map[string]*thing
	text  string
	data  []byte
	there [70]bool
}

// plain is a model as the chapter tells of it: what is to fail is told ahead of doing anything.
type plain struct {
	room  int
	nodes int
	top   *thing
	open  [8]*thing
}

func newPlain(room int, nodes int) *plain {
	top := &thing{kind: 2, links: 1, names: map[string]*thing{}}
	top.above = top
	return &plain{room: room, nodes: nodes, top: top}
}

// all is every inode, each once.
func (p *plain) all() map[*thing]bool {
	l := map[*thing]bool{}
	var gather func(*thing)
	gather = func(x *thing) {
		l[x] = true
		for _, y := range x.names {
			gather(y)
		}
	}
	gather(p.top)
	for _, x := range p.open {
		if x != nil {
			l[x] = true
		}
	}
	return l
}

// dirCost is what a directory of n entries costs, 8 of which a block has.
func dirCost(n int) int {
	b := (n + 7) / 8
	if b > 6 {
		b++
	}
	return b
}

func thereCost(there [70]bool) int {
	n, index := 0, 0
	for k, is := range there {
		if is {
			n++
			if k > 5 {
				index = 1
			}
		}
	}
	return n + index
}

func (x *thing) cost() int {
	switch x.kind {
	case 1:
		return thereCost(x.there)
	case 2:
		return dirCost(len(x.names))
	}
	return 1
}

func (p *plain) used() int {
	n := 0
	for x := range p.all() {
		n += x.cost()
	}
	return n
}

// parts is the names of a path, as chapter 15 tells them.
func parts(s string) (l []string, abs bool, e api.Errno) {
	if len(s) < 1 || len(s) > 200 {
		return nil, false, api.ErrName
	}
	for _, x := range strings.Split(s, "/") {
		if len(x) > 27 || strings.Contains(x, "\x00") {
			return nil, false, api.ErrName
		}
		if x != "" && x != "." {
			l = append(l, x)
		}
	}
	return l, s[0] == '/', api.OK
}

// go1 goes one name on, and through a link, by going all that this tells, from where it stands.
func (p *plain) go1(from *thing, name string, through bool, hops *int) (*thing, api.Errno) {
	if from.kind != 2 {
		return nil, api.ErrNotDir
	}
	if name == ".." {
		return from.above, api.OK
	}
	x := from.names[name]
	if x == nil {
		return nil, api.ErrNone
	}
	if x.kind != 3 || !through {
		return x, api.OK
	}
	if *hops++; *hops > 8 {
		return nil, api.ErrLoop
	}
	l, abs, _ := parts(x.text)
	if abs {
		from = p.top
	}
	return p.goAll(from, l, true, hops)
}

func (p *plain) goAll(from *thing, l []string, through bool, hops *int) (*thing, api.Errno) {
	for i, name := range l {
		x, e := p.go1(from, name, through || i < len(l)-1, hops)
		if e != api.OK {
			return nil, e
		}
		from = x
	}
	return from, api.OK
}

func (p *plain) walk(s string, through bool) (*thing, api.Errno) {
	l, _, e := parts(s)
	if e != api.OK {
		return nil, e
	}
	hops := 0
	return p.goAll(p.top, l, through, &hops)
}

func (p *plain) place(s string) (*thing, string, api.Errno) {
	l, _, e := parts(s)
	if e != api.OK {
		return nil, "", e
	}
	if len(l) == 0 || l[len(l)-1] == ".." {
		return nil, "", api.ErrName
	}
	hops := 0
	x, e := p.goAll(p.top, l[:len(l)-1], true, &hops)
	if e != api.OK {
		return nil, "", e
	}
	if x.kind != 2 {
		return nil, "", api.ErrNotDir
	}
	return x, l[len(l)-1], api.OK
}

// grows tells what stands against a new entry, with some blocks beside it.
func (p *plain) grows(d *thing, more int) api.Errno {
	if p.used()+more+dirCost(len(d.names)+1)-dirCost(len(d.names)) > p.room {
		return api.ErrSpace
	}
	return api.OK
}

func (p *plain) add(s string, x *thing) api.Errno {
	d, name, e := p.place(s)
	more := 0
	if x.kind == 3 {
		more = 1
	}
	switch {
	case e != api.OK:
		return e
	case d.names[name] != nil:
		return api.ErrExist
	case len(d.names) == 560:
		return api.ErrBig
	case len(p.all()) >= p.nodes:
		return api.ErrNodes
	}
	if e := p.grows(d, more); e != api.OK {
		return e
	}
	x.links, x.above = 1, d
	d.names[name] = x
	return api.OK
}

func (p *plain) symlink(to string, s string) api.Errno {
	if _, _, e := parts(to); e != api.OK {
		return e
	}
	return p.add(s, &thing{kind: 3, text: to})
}

func (p *plain) remove(s string, dir bool) api.Errno {
	d, name, e := p.place(s)
	if e != api.OK {
		return e
	}
	x := d.names[name]
	switch {
	case x == nil:
		return api.ErrNone
	case dir && x.kind != 2:
		return api.ErrNotDir
	case dir && len(x.names) > 0:
		return api.ErrFilled
	case !dir && x.kind == 2:
		return api.ErrDir
	}
	delete(d.names, name)
	x.links--
	return api.OK
}

func (p *plain) link(s string, other string) api.Errno {
	x, e := p.walk(s, false)
	if e != api.OK {
		return e
	}
	if x.kind == 2 {
		return api.ErrDir
	}
	d, name, e := p.place(other)
	switch {
	case e != api.OK:
		return e
	case d.names[name] != nil:
		return api.ErrExist
	case len(d.names) == 560 || x.links == 100:
		return api.ErrBig
	}
	if e := p.grows(d, 0); e != api.OK {
		return e
	}
	d.names[name] = x
	x.links++
	return api.OK
}

func (p *plain) rename(s string, other string) api.Errno {
	c, old, e := p.place(s)
	if e != api.OK {
		return e
	}
	x := c.names[old]
	if x == nil {
		return api.ErrNone
	}
	d, name, e := p.place(other)
	if e != api.OK {
		return e
	}
	for up := d; up != p.top; up = up.above {
		if up == x {
			return api.ErrArg
		}
	}
	y := d.names[name]
	switch {
	case y == x:
		return api.OK
	case y == nil && c != d && len(d.names) == 560:
		return api.ErrBig
	case y == nil && c != d:
		if e := p.grows(d, dirCost(len(c.names)-1)-dirCost(len(c.names))); e != api.OK {
			return e
		}
	case y != nil && x.kind == 2 && y.kind != 2:
		return api.ErrNotDir
	case y != nil && x.kind != 2 && y.kind == 2:
		return api.ErrDir
	case y != nil && len(y.names) > 0:
		return api.ErrFilled
	}
	if y != nil {
		y.links--
	}
	delete(c.names, old)
	d.names[name] = x
	// Above a file there may be several; it is asked of directories alone.
	x.above = d
	return api.OK
}

func (p *plain) tell(op api.Op) api.Result {
	x, e := p.walk(op.Path, op.Kind == api.OpList || op.Kind == api.OpStat && op.N != 1)
	switch {
	case e != api.OK:
		return api.Result{E: e}
	case op.Kind == api.OpStat:
		size := map[int]int{1: len(x.data), 2: 32 * len(x.names), 3: len(x.text)}[x.kind]
		return api.Result{Stat: api.Stat{Kind: x.kind, Size: size, Links: x.links, Blocks: x.cost()}}
	case op.Kind == api.OpReadlink && x.kind != 3:
		return api.Result{E: api.ErrArg}
	case op.Kind == api.OpReadlink:
		return api.Result{Data: []byte(x.text)}
	case x.kind != 2:
		return api.Result{E: api.ErrNotDir}
	}
	var l []string
	for name := range x.names {
		l = append(l, name)
	}
	slices.Sort(l)
	return api.Result{Names: l}
}

func (p *plain) openFile(s string) api.Result {
	x, e := p.walk(s, true)
	if e != api.OK {
		return api.Result{E: e}
	}
	if x.kind == 2 {
		return api.Result{E: api.ErrDir}
	}
	for h := range p.open {
		if p.open[h] == nil {
			p.open[h] = x
			return api.Result{H: h}
		}
	}
	return api.Result{E: api.ErrHandle}
}

func (p *plain) write(x *thing, at int, data []byte) api.Errno {
	switch {
	case at < 0:
		return api.ErrArg
	case len(data) == 0:
		return api.OK
	case at > 17920 || at+len(data) > 17920:
		return api.ErrBig
	}
	there := x.there
	for i := range data {
		there[(at+i)/256] = true
	}
	if p.used()-x.cost()+thereCost(there) > p.room {
		return api.ErrSpace
	}
	x.there = there
	for len(x.data) < at+len(data) {
		x.data = append(x.data, 0)
	}
	copy(x.data[at:], data)
	return api.OK
}

func (x *thing) truncate(n int) api.Errno {
	switch {
	case n < 0:
		return api.ErrArg
	case n > 17920:
		return api.ErrBig
	}
	data := make([]byte, n)
	copy(data, x.data)
	x.data = data
	for k := range x.there {
		x.there[k] = x.there[k] && k*256 < n
	}
	return api.OK
}

func (p *plain) file(op api.Op) api.Result {
	if op.H < 0 || op.H > 7 || p.open[op.H] == nil {
		return api.Result{E: api.ErrHandle}
	}
	x := p.open[op.H]
	switch op.Kind {
	case api.OpClose:
		p.open[op.H] = nil
	case api.OpWrite:
		return api.Result{E: p.write(x, op.At, op.Data)}
	case api.OpTruncate:
		return api.Result{E: x.truncate(op.N)}
	case api.OpRead:
		if op.At < 0 || op.N < 0 {
			return api.Result{E: api.ErrArg}
		}
		var b []byte
		for i := op.At; i < len(x.data) && i-op.At < op.N; i++ {
			b = append(b, x.data[i])
		}
		return api.Result{Data: b}
	}
	return api.Result{}
}

func (p *plain) do(op api.Op) api.Result {
	switch op.Kind {
	case api.OpMkdir:
		return api.Result{E: p.add(op.Path, &thing{kind: 2, names: map[string]*thing{}})}
	case api.OpCreate:
		return api.Result{E: p.add(op.Path, &thing{kind: 1})}
	case api.OpSymlink:
		return api.Result{E: p.symlink(op.Path, op.Other)}
	case api.OpRmdir, api.OpUnlink:
		return api.Result{E: p.remove(op.Path, op.Kind == api.OpRmdir)}
	case api.OpLink:
		return api.Result{E: p.link(op.Path, op.Other)}
	case api.OpRename:
		return api.Result{E: p.rename(op.Path, op.Other)}
	case api.OpList, api.OpStat, api.OpReadlink:
		return p.tell(op)
	case api.OpOpen:
		return p.openFile(op.Path)
	case api.OpClose, api.OpRead, api.OpWrite, api.OpTruncate:
		return p.file(op)
	case api.OpUsage:
		return api.Result{Stat: api.Stat{N: len(p.all()), Blocks: p.used(), Size: p.room, Links: p.nodes}}
	}
	return api.Result{E: api.ErrArg}
}

func (p *plain) restart() { p.open = [8]*thing{} }
