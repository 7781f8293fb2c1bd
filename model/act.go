package model

import "sacristan/api"

// fault is what is panicked with where an Op fails; try tells its number.
type fault struct{ number api.Errno }

// failIf ends an Op by that error, if so.
func failIf(so bool, e api.Errno) {
	if so {
		panic(fault{e})
	}
}

// act is what an Op of some kind does.
type act struct {
	do func(*Model, api.Op) api.Result
}

// acts is what there is to do, by kinds.
func acts() map[int]act {
	return map[int]act{
		api.OpMkdir:    {(*Model).mkdir},
		api.OpRmdir:    {(*Model).rmdir},
		api.OpCreate:   {(*Model).create},
		api.OpUnlink:   {(*Model).unlink},
		api.OpLink:     {(*Model).link},
		api.OpSymlink:  {(*Model).symlink},
		api.OpRename:   {(*Model).rename},
		api.OpList:     {(*Model).list},
		api.OpStat:     {(*Model).stat},
		api.OpReadlink: {(*Model).readlink},
		api.OpOpen:     {(*Model).openFile},
		api.OpClose:    {(*Model).closeFile},
		api.OpRead:     {(*Model).read},
		api.OpWrite:    {(*Model).write},
		api.OpTruncate: {(*Model).truncate},
		api.OpUsage:    {(*Model).usage},
	}
}

// try does an Op, or tells its error: then m may be left half-way.
func (m *Model) try(op api.Op) (r api.Result) {
	defer func() {
		switch p := recover().(type) {
		case nil:
		case fault:
			r = api.Result{E: p.number}
		default:
			// Nobody but failIf panics here: whatever else comes is no answer.
			panic(p)
		}
	}()
	a, is := acts()[op.Kind]
	failIf(!is, api.ErrArg)
	r = a.do(m, op)
	// Behind all else: what fails by another error uses nothing more.
	failIf(m.used() > m.room, api.ErrSpace)
	return r
}
