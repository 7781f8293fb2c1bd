package model_test

import (
	"strconv"
	"strings"
	"testing"

	"sacristan/api"
)

// place is all that may be wrong with where an entry is, or is to be laid.
func (a asked) place(of func(string) api.Op) {
	a.Helper()
	long := strings.Repeat("x", 28)
	a.fails(api.ErrName, of(""), of("/"), of("."), of(".."), of("/.."), of("/d/.."), of("/f/.."), of("/nobody/.."), of("//"), of("\x00"), of("/d/\x00"), of(long), of("/d/"+long), of("/nobody/"+long), of("/"+long+"/a"), of(strings.Repeat("a/", 100)+"/"))
	a.fails(api.ErrNone, of("/nobody/x"), of("/d/nobody/x"), of("/none/x"), of("/nobody/../f"))
	a.fails(api.ErrNotDir, of("/f/x"), of("/d/f/x"), of("/lf/x"), of("/f/../x"), of("/f/x/y"))
	a.fails(api.ErrLoop, of("/me/x"), of("/me/../x"))
}

// filled is a model with some of each kind.
func filled(t *testing.T, room int, nodes int) asked {
	a := ask(t, room, nodes)
	a.does(mkdir("/d"), mkdir("/d/e"), create("/d/f"), create("/f"), symlink("f", "/lf"), symlink("d", "/ld"), symlink("nobody", "/none"), symlink("me", "/me"))
	return a
}

// Behind this there is just what filled has: what failed changed nothing.
func (a asked) stillFilled() {
	a.Helper()
	a.tells(list("/"), api.Result{Names: []string{"d", "f", "ld", "lf", "me", "none"}})
	a.tells(list("/d"), api.Result{Names: []string{"e", "f"}})
	a.does(list("/d/e"))
	a.has("/", api.Dir, 192, 1, 1)
	a.has("/d", api.Dir, 64, 1, 1)
	a.has("/d/e", api.Dir, 0, 1, 0)
	a.has("/f", api.File, 0, 1, 0)
	a.has("/d/f", api.File, 0, 1, 0)
	for s, text := range map[string]string{"/lf": "f", "/ld": "d", "/none": "nobody", "/me": "me"} {
		a.has(s, api.Link, len(text), 1, 1)
		a.tells(readlink(s), api.Result{Data: []byte(text)})
	}
	a.uses(9, 6)
}

func TestAdd(t *testing.T) {
	a := filled(t, 7, 11)
	long := strings.Repeat("x", 27)
	for _, of := range []func(string) api.Op{mkdir, create, func(s string) api.Op { return symlink("a", s) }} {
		a.place(of)
		// A link at the end is there itself, wherever it leads.
		a.fails(api.ErrExist, of("/d"), of("/f"), of("/d/e"), of("d/e/"), of("/lf"), of("/ld"), of("/none"), of("/me"), of("/ld/f"), of("/ld/e/../f"))
		a.stillFilled()
	}
	a.does(mkdir("/ld/new/"), create("d/e/../"+long))
	a.has("/d/new", api.Dir, 0, 1, 0)
	a.has("/d/"+long, api.File, 0, 1, 0)
	a.tells(list("/d"), api.Result{Names: []string{"e", "f", "new", long}})
	a.uses(11, 6)
	a.does(unlink("/d/"+long), symlink("a", "/ld/x"))
	a.has("/d/x", api.Link, 1, 1, 1)
	a.uses(11, 7)
	// Ahead of the room there are the nodes, ahead of these what is there.
	a.fails(api.ErrNodes, create("/d/y"), mkdir("/d/y"), symlink("x", "/d/y"), create("/d/e/x"))
	a.fails(api.ErrExist, create("/d/x"), mkdir("/f"), symlink("x", "/lf"))
	a.fails(api.ErrName, symlink("", "/d/x"), create("/"))
	a.does(rmdir("/d/new"))
	a.fails(api.ErrSpace, symlink("x", "/d/y"), create("/d/e/x"), mkdir("/d/e/x"))
	a.does(mkdir("/d/y"))
}

func TestSymlink(t *testing.T) {
	a := filled(t, 20, 20)
	// Its text has to be a path, ahead of all that is asked of where it is to be laid; wherever it may lead.
	for _, s := range []string{"", "\x00", "a/\x00", strings.Repeat("x", 28), "/a/" + strings.Repeat("x", 28), strings.Repeat("/", 201)} {
		a.fails(api.ErrName, symlink(s, "/x"), symlink(s, "/f"), symlink(s, "/nobody/x"), symlink(s, "/f/x"), symlink(s, "/me/x"))
	}
	a.stillFilled()
	for i, s := range []string{"/", ".", "..", "//a//..//", "nobody/./x", "\xff\xfe", strings.Repeat("/", 200), strings.Repeat("a/", 100)} {
		name := "/d/e/" + strconv.Itoa(i)
		a.does(symlink(s, name))
		a.has(name, api.Link, len(s), 1, 1)
		a.tells(readlink(name), api.Result{Data: []byte(s)})
	}
}

func TestRmdir(t *testing.T) {
	a := filled(t, 20, 20)
	a.place(rmdir)
	a.fails(api.ErrNone, rmdir("/x"), rmdir("/d/x"), rmdir("/ld/x"))
	a.fails(api.ErrNotDir, rmdir("/f"), rmdir("/d/f"), rmdir("/ld"), rmdir("/lf"), rmdir("/me"), rmdir("/none"))
	a.fails(api.ErrFilled, rmdir("/d"), rmdir("d/e/../../d/"))
	a.stillFilled()
	a.does(rmdir("/ld/e"))
	a.fails(api.ErrNone, rmdir("/d/e"), stat("/d/e"))
	a.tells(list("/d"), api.Result{Names: []string{"f"}})
	a.uses(8, 6)
	a.does(unlink("/d/f"), rmdir("/d"))
	a.uses(6, 5)
	a.has("/ld", api.Link, 1, 1, 1)
	a.fails(api.ErrNone, stat("/ld"))
}

func TestUnlink(t *testing.T) {
	a := filled(t, 20, 20)
	a.place(unlink)
	a.fails(api.ErrNone, unlink("/x"), unlink("/d/x"), unlink("/ld/x"))
	a.fails(api.ErrDir, unlink("/d"), unlink("/d/e"), unlink("/ld/e"))
	a.stillFilled()
	// A link at the end goes itself.
	a.does(unlink("/lf"), unlink("/me"), unlink("/none"))
	a.has("/f", api.File, 0, 1, 0)
	a.uses(6, 3)
	a.does(unlink("/ld/f"), unlink("/ld"))
	a.does(list("/d/e"))
	a.tells(list("/d"), api.Result{Names: []string{"e"}})
	a.uses(4, 2)
	a.does(create("/d/f"))
}

// An inode stays while it has a name, or a handle.
func TestGone(t *testing.T) {
	a := ask(t, 20, 20)
	a.does(create("/f"), link("/f", "/g"), link("/g", "/h"))
	a.does(open("/f"), write(0, 0, "abc"))
	a.tells(open("/g"), api.Result{H: 1})
	a.has("/h", api.File, 3, 3, 1)
	a.does(unlink("/g"))
	a.has("/h", api.File, 3, 2, 1)
	a.does(unlink("/h"))
	a.has("/f", api.File, 3, 1, 1)
	a.does(unlink("/f"))
	a.uses(2, 1)
	a.does(create("/f"))
	a.tells(read(1, 0, 9), api.Result{Data: []byte("abc")})
	a.does(closing(0))
	a.does(write(1, 300, "d"))
	a.uses(3, 3)
	a.does(closing(1))
	a.uses(2, 1)
	// Closed, but with a name, it stays.
	a.does(open("/f"), write(0, 0, "abc"), closing(0))
	a.has("/f", api.File, 3, 1, 1)
	a.uses(2, 2)
	a.does(unlink("/f"))
	a.uses(1, 0)
}

func TestLink(t *testing.T) {
	a := filled(t, 7, 9)
	a.place(func(s string) api.Op { return link("/f", s) })
	a.fails(api.ErrName, link("", "/x"), link("\x00", ""), link("/"+strings.Repeat("x", 28), "/x"))
	a.fails(api.ErrNone, link("/x", ""), link("/nobody/f", "/x"), link("/none/f", "/x"))
	a.fails(api.ErrNotDir, link("/f/x", ""), link("/lf/x", "/d"))
	a.fails(api.ErrLoop, link("/me/x", ""))
	a.fails(api.ErrDir, link("/", "/x"), link("/d", ""), link("/d/e", "/f"), link("/ld/e", "/x"), link("/ld/..", "/x"))
	a.fails(api.ErrExist, link("/f", "/f"), link("/f", "/d"), link("/f", "/lf"), link("/f", "/ld/f"), link("/f", "/me"))
	a.stillFilled()
	a.does(link("/f", "/ld/x"), link("/lf", "/d/y"), link("/me", "/d/z"))
	a.has("/f", api.File, 0, 2, 0)
	a.has("/d/x", api.File, 0, 2, 0)
	a.has("/d/y", api.Link, 1, 2, 1)
	a.has("/d/z", api.Link, 2, 2, 1)
	// No inode is needed, but a block may be.
	a.uses(9, 6)
	a.does(link("/f", "/d/e/x"))
	a.uses(9, 7)
	a.does(link("/d/f", "/d/e/y"))
	a.fails(api.ErrNodes, create("/d/e/z"))
	a.tells(list("/d/e"), api.Result{Names: []string{"x", "y"}})
}

func TestRename(t *testing.T) {
	a := filled(t, 20, 20)
	a.place(func(s string) api.Op { return rename(s, "/x") })
	a.place(func(s string) api.Op { return rename("/f", s) })
	// All that is wrong with Path is told ahead of what is wrong with Other.
	a.fails(api.ErrName, rename("/", "/x/y"), rename("", "/f/x"))
	a.fails(api.ErrNone, rename("/x", ""), rename("/nobody/x", "/f/x"), rename("/d/x", "/me/x"))
	a.fails(api.ErrNotDir, rename("/f/x", ""), rename("/d/f/x", "/nobody/x"))
	a.fails(api.ErrLoop, rename("/me/x", ""))
	a.stillFilled()
	a.does(rename("/f", "/ld/g"))
	a.has("/d/g", api.File, 0, 1, 0)
	a.does(rename("/d/g", "f"))
	a.stillFilled()
	// A link moves itself, and a directory with all it has.
	a.does(rename("/lf", "/d/e/l"), rename("/ld/e", "/e"))
	a.has("/e/l", api.Link, 1, 1, 1)
	a.tells(list("/e"), api.Result{Names: []string{"l"}})
	a.tells(list("/d"), api.Result{Names: []string{"f"}})
	a.fails(api.ErrNone, stat("/d/e"), stat("/e/l"))
	a.tells(list("/e/.."), a.m.Do(list("/")))
	a.does(rename("/d", "/e/d"))
	a.tells(list("/e/d/.."), api.Result{Names: []string{"d", "l"}})
	a.does(rename("/e/d/f", "/e/f"))
	a.tells(stat("/e/l"), api.Result{Stat: api.Stat{Kind: api.File, Links: 1}})
	a.uses(9, 6)
}

// A directory may not be moved into itself, whatever stands there.
func TestRenameIntoItself(t *testing.T) {
	a := filled(t, 20, 20)
	a.does(mkdir("/d/e/g"), create("/d/e/g/f"), symlink("/d/e/g", "/lg"))
	for _, s := range []string{"/d/x", "/d/f", "/d/e", "/ld/x", "/d/e/x", "/d/e/g", "/d/e/g/x", "/d/e/g/f", "/lg/x", "/lg/f", "/d/../ld/e/x"} {
		a.fails(api.ErrArg, rename("/d", s))
	}
	a.fails(api.ErrArg, rename("/d/e", "/d/e/g/x"), rename("/d/e", "/lg/../x"), rename("/d/e/g", "/lg/f"))
	// A link into it is another thing, and so is a directory beside it, or above it.
	a.does(rename("/ld", "/d/l"), rename("/d/l", "/ld"), rename("/d/e/g", "/d/g"), rename("/d/g", "/g"), rename("/g", "/d/e/g"))
	a.fails(api.ErrFilled, rename("/d/e", "/d"), rename("/d/e/g", "/d/e"), rename("/d/e/g", "/d"))
	a.fails(api.ErrDir, rename("/d/f", "/d"), rename("/d/e/g/f", "/d"))
	a.tells(list("/d/e/g"), api.Result{Names: []string{"f"}})
	a.uses(12, 9)
}

func TestRenameOverAnother(t *testing.T) {
	a := filled(t, 20, 20)
	a.does(mkdir("/m"), mkdir("/n"), create("/g"), open("/g"), write(0, 0, "abc"))
	// What is the same stays, and so do both its names.
	a.does(rename("/f", "/f"), rename("/d", "/ld/../d"), rename("/ld", "ld"), link("/g", "/d/h"), rename("/g", "/d/h"), rename("/d/h", "/g"))
	a.has("/g", api.File, 3, 2, 1)
	a.has("/d/h", api.File, 3, 2, 1)
	a.fails(api.ErrNotDir, rename("/d", "/f"), rename("/m", "/lf"), rename("/m", "/ld"), rename("/m", "/none"))
	a.fails(api.ErrDir, rename("/f", "/m"), rename("/lf", "/d"), rename("/ld", "/m"))
	a.fails(api.ErrFilled, rename("/m", "/d"), rename("/d/e", "/d/../d"))
	a.uses(12, 8)
	// An empty one is gone.
	a.does(rename("/d", "/m"))
	a.fails(api.ErrNone, stat("/d"))
	a.tells(list("/m"), api.Result{Names: []string{"e", "f", "h"}})
	a.uses(11, 7)
	a.does(rename("/n", "/m/e"))
	a.does(list("/m/e"))
	a.fails(api.ErrNone, stat("/n"))
	a.uses(10, 7)
	// One of several names, then the last one: while it is open, it stays.
	a.does(rename("/f", "/g"))
	a.has("/m/h", api.File, 3, 1, 1)
	a.has("/g", api.File, 0, 1, 0)
	a.uses(10, 7)
	a.does(rename("/lf", "/m/h"))
	a.tells(readlink("/m/h"), api.Result{Data: []byte("f")})
	a.tells(read(0, 0, 9), api.Result{Data: []byte("abc")})
	a.uses(10, 7)
	a.does(closing(0))
	a.uses(9, 6)
	a.does(rename("/none", "/me"), rename("/g", "/me"))
	a.has("/me", api.File, 0, 1, 0)
	a.uses(7, 4)
	a.tells(list("/"), api.Result{Names: []string{"ld", "m", "me"}})
}

func TestList(t *testing.T) {
	a := ask(t, 20, 40)
	l := []string{"\x01", " ", "-", "0", "10", "9", "A", "Z", "a", "a.", "a0", "aa", "b", "z", "\x7f", "\x80", "\xc3\xa9", "\xff"}
	for i := range l {
		a.does(create("/" + l[i*7%len(l)]))
	}
	a.tells(list("/"), api.Result{Names: l})
	a.has("/", api.Dir, 32*len(l), 1, 3)
	for i, s := range l {
		a.does(unlink(s))
		a.tells(list("."), api.Result{Names: l[i+1:]})
	}
	a.fails(api.ErrName, list(""), list("\x00"))
	a.fails(api.ErrNone, list("/x"))
	a.does(create("/x"), symlink("x", "/y"))
	a.fails(api.ErrNotDir, list("/x"), list("/y"), list("/x/z"))
}
