package model_test

import (
	"strconv"
	"testing"

	"sacristan/api"
	"sacristan/model"
)

// name is the name of that number: the greater the number, the greater the name.
func name(i int) string { return "n" + strconv.Itoa(1000+i) }

// fill lays names in a directory, from that number on to another one: a new file for each fifty of them.
func (a asked) fill(dir string, from int, to int) {
	a.Helper()
	for i := from; i < to; i++ {
		if i%50 == 0 {
			a.does(create(dir + "/" + name(i)))
			continue
		}
		a.does(link(dir+"/"+name(i/50*50), dir+"/"+name(i)))
	}
}

// A directory costs the blocks of its entries, and one more where these are more than the direct ones.
func TestCostOfDir(t *testing.T) {
	a := ask(t, 4096, 256)
	for n := range 560 {
		a.has("/", api.Dir, 32*n, 1, dirCost(n))
		a.uses(1+(n+49)/50, dirCost(n))
		a.fill("", n, n+1)
	}
	for n := 560; n > 0; n-- {
		a.has("/", api.Dir, 32*n, 1, dirCost(n))
		a.does(unlink("/" + name(n-1)))
	}
	a.has("/", api.Dir, 0, 1, 0)
	for n, want := range map[int]int{0: 0, 1: 1, 8: 1, 9: 2, 48: 6, 49: 8, 56: 8, 57: 9, 560: 71} {
		if dirCost(n) != want {
			t.Errorf("%d entries cost %d", n, dirCost(n))
		}
	}
}

// grows is a model whose directory /d has so many names, and no room but for as many blocks more.
func grows(t *testing.T, n int, more int) asked {
	a := ask(t, 1+dirCost(n)+more, 256)
	a.does(mkdir("/d"))
	a.fill("/d", 0, n)
	return a
}

// Where a directory would grow, there has to be room for that; where it would not, there needs none.
func TestRoomOfDir(t *testing.T) {
	for n := range 120 {
		more := dirCost(n+1) - dirCost(n)
		for left := range more + 2 {
			e := api.OK
			if left < more {
				e = api.ErrSpace
			}
			for _, op := range []api.Op{create("/d/x"), mkdir("/d/x"), symlink("a", "/d/x"), link("/f", "/d/x"), rename("/f", "/d/x")} {
				a := grows(t, n, left)
				want := e
				switch {
				case op.Kind == api.OpSymlink && left <= more:
					want = api.ErrSpace
				case op.Kind == api.OpLink || op.Kind == api.OpRename:
					a.does(create("/f"))
				}
				a.tells(op, api.Result{E: want})
				size := 32 * n
				if want == api.OK {
					size += 32
				}
				a.has("/d", api.Dir, size, 1, dirCost(size/32))
			}
		}
	}
}

// What a rename frees, it may use.
func TestRoomOfRename(t *testing.T) {
	// The directory that it leaves has a block less then, the one that it comes to one more.
	a := ask(t, 3, 20)
	a.does(mkdir("/c"), mkdir("/d"))
	a.fill("/c", 0, 9)
	a.uses(4, 3)
	a.fails(api.ErrSpace, link("/c/"+name(8), "/d/x"))
	a.does(rename("/c/"+name(8), "/d/x"))
	a.uses(4, 3)
	// Within one directory, and where there is room, there is never more.
	a.does(rename("/d/x", "/d/z"), rename("/c/"+name(7), "/d/y"), rename("/d/y", "/c/y"), rename("/c/"+name(6), "/d/y"))
	a.uses(4, 3)
	a.does(link("/d/y", "/c/x"), rename("/c/x", "/c/z"))
	// It leaves no block less, and comes to one more.
	a.does(mkdir("/e"))
	a.fails(api.ErrSpace, rename("/c/y", "/e/y"), rename("/d/y", "/e/y"), rename("/d", "/e/y"))
	a.uses(5, 3)
	// What is laid over another one needs nothing, also where that stays for its handle.
	b := ask(t, 4, 20)
	b.does(mkdir("/c"), mkdir("/d"), create("/c/f"), create("/d/g"), open("/d/g"), write(0, 0, "a"))
	b.fails(api.ErrSpace, symlink("a", "/l"))
	b.does(rename("/c/f", "/d/g"))
	b.uses(5, 3)
	b.does(closing(0))
	b.uses(4, 2)
}

// No directory has more entries than a file may have bytes of them.
func TestBigDir(t *testing.T) {
	a := ask(t, 4096, 256)
	a.does(mkdir("/d"), create("/f"), mkdir("/e"), symlink("a", "/l"))
	a.fill("/d", 0, 559)
	a.does(create("/d/x"))
	a.has("/d", api.Dir, api.MaxSize, 1, 71)
	big := []api.Op{create("/d/y"), mkdir("/d/y"), symlink("a", "/d/y"), link("/f", "/d/y"), rename("/f", "/d/y"), rename("/e", "/d/y"), rename("/l", "/d/y")}
	a.fails(api.ErrBig, big...)
	a.fails(api.ErrExist, create("/d/x"), mkdir("/d/x"), symlink("a", "/d/x"), link("/f", "/d/x"))
	a.has("/d", api.Dir, api.MaxSize, 1, 71)
	a.has("/f", api.File, 0, 1, 0)
	// It is full, and may be turned over all the same.
	a.does(rename("/d/x", "/d/y"), rename("/d/y", "/d/x"), rename("/f", "/d/x"), rename("/l", "/d/x"))
	a.has("/d", api.Dir, api.MaxSize, 1, 71)
	a.fails(api.ErrBig, rename("/e", "/d/y"))
	a.does(unlink("/d/x"), rename("/e", "/d/y"))
	a.has("/d", api.Dir, api.MaxSize, 1, 71)
	// Ahead of what else may be wanting.
	b := ask(t, 72, 13)
	b.does(mkdir("/d"))
	b.fill("/d", 0, 550)
	b.fails(api.ErrNodes, create("/d/x"))
	for i := 551; i < 561; i++ {
		b.does(link("/d/"+name(0), "/d/"+name(i)))
	}
	b.uses(13, 72)
	b.fails(api.ErrBig, create("/d/x"), mkdir("/d/x"), symlink("a", "/d/x"), link("/d/"+name(0), "/d/x"))
	b.fails(api.ErrNodes, create("/x"), mkdir("/x"), symlink("a", "/x"))
}

// No inode has more names than there may be.
func TestMaxLinks(t *testing.T) {
	a := ask(t, 100, 10)
	a.does(create("/f"), symlink("f", "/l"), mkdir("/d"))
	for i := 2; i <= api.MaxLinks; i++ {
		a.does(link("/f", "/d/"+name(i)), link("/l", "/d/l"+name(i)))
		a.has("/f", api.File, 0, i, 0)
		a.has("/l", api.Link, 1, i, 1)
	}
	a.fails(api.ErrBig, link("/f", "/d/x"), link("/l", "/d/x"), link("/d/"+name(50), "/x"))
	a.fails(api.ErrExist, link("/f", "/l"), link("/f", "/f"))
	a.fails(api.ErrNone, link("/f", "/x/y"))
	// A rename lays no name more.
	a.does(rename("/d/"+name(7), "/d/x"), unlink("/d/x"), link("/f", "/d/y"))
	a.fails(api.ErrBig, link("/f", "/d/x"))
	a.has("/f", api.File, 0, api.MaxLinks, 0)
}

func TestNodes(t *testing.T) {
	for _, nodes := range []int{1, 2, 3, 255, 256} {
		a := ask(t, 4096, nodes)
		for i := 1; i < nodes; i++ {
			a.does([]api.Op{create("/" + name(i)), mkdir("/" + name(i)), symlink("a", "/"+name(i))}[i%3])
		}
		a.fails(api.ErrNodes, create("/x"), mkdir("/x"), symlink("a", "/x"))
		a.fails(api.ErrName, create("/"), mkdir(""), symlink("a", "/.."), symlink("", "/x"))
		if nodes > 1 {
			a.fails(api.ErrExist, create("/"+name(1)), symlink("a", "/"+name(1)))
			a.does(rmdir("/"+name(1)), symlink("a", "/x"))
			a.fails(api.ErrNodes, mkdir("/y"))
		}
	}
}

// Without any room there is a top, and no name in it.
func TestNoRoom(t *testing.T) {
	a := ask(t, 0, 10)
	a.fails(api.ErrSpace, create("/f"), mkdir("/d"), symlink("a", "/l"))
	a.uses(1, 0)
	b := ask(t, 1, 10)
	b.fails(api.ErrSpace, symlink("a", "/l"))
	b.does(mkdir("/d"), create("/f"))
	b.fails(api.ErrSpace, create("/d/f"), link("/f", "/d/f"), symlink("a", "/l"), rename("/f", "/d/f"))
	b.does(open("/f"))
	b.fails(api.ErrSpace, write(0, 0, "a"))
	b.does(truncate(0, 1000), write(0, 0, ""), rmdir("/d"))
	b.uses(2, 1)
}

func TestRestart(t *testing.T) {
	a := filled(t, 20, 20)
	a.does(open("/f"), write(0, 0, "abc"), create("/g"), unlink("/none"), unlink("/me"))
	a.tells(open("/g"), api.Result{H: 1})
	a.tells(open("/d/f"), api.Result{H: 2})
	a.does(write(1, 0, "def"), unlink("/g"), unlink("/d/f"))
	a.uses(8, 6)
	a.m.Restart()
	a.uses(6, 5)
	for h := range api.MaxHandles {
		a.fails(api.ErrHandle, closing(h), read(h, 0, 1))
	}
	a.has("/f", api.File, 3, 1, 1)
	a.does(open("/f"))
	a.tells(read(0, 0, 9), api.Result{Data: []byte("abc")})
	a.tells(list("/"), api.Result{Names: []string{"d", "f", "ld", "lf"}})
	a.m.Restart()
	a.uses(6, 5)
}

// A copy is the same, and from there on neither knows what the other is asked.
func TestCopy(t *testing.T) {
	a := filled(t, 20, 20)
	a.does(open("/f"), write(0, 0, "abc"), create("/g"))
	a.tells(open("/g"), api.Result{H: 1})
	a.does(unlink("/g"), write(1, 1, "x"))
	b := asked{t, a.m.Copy()}
	for _, c := range []asked{a, b} {
		c.uses(10, 8)
		c.tells(read(0, 0, 9), api.Result{Data: []byte("abc")})
		c.tells(read(1, 0, 9), api.Result{Data: []byte("\x00x")})
		c.tells(list("/"), api.Result{Names: []string{"d", "f", "ld", "lf", "me", "none"}})
	}
	a.does(write(0, 1, "BC"), write(1, 0, "y"), unlink("/me"), create("/d/e/f"), closing(1), rename("/none", "/lf"), link("/f", "/d/e/g"))
	b.uses(10, 8)
	b.has("/f", api.File, 3, 1, 1)
	b.tells(read(0, 0, 9), api.Result{Data: []byte("abc")})
	b.tells(read(1, 0, 9), api.Result{Data: []byte("\x00x")})
	b.tells(list("/"), api.Result{Names: []string{"d", "f", "ld", "lf", "me", "none"}})
	b.does(list("/d/e"))
	b.does(truncate(0, 1), rmdir("/d/e"))
	b.m.Restart()
	b.does(unlink("/f"))
	b.uses(7, 6)
	a.uses(8, 6)
	a.tells(read(0, 0, 9), api.Result{Data: []byte("aBC")})
	a.tells(list("/d/e"), api.Result{Names: []string{"f", "g"}})
	a.has("/f", api.File, 3, 2, 1)
}

func TestSame(t *testing.T) {
	whole := func() api.Result {
		return api.Result{E: 1, H: 2, Data: []byte("ab"), Names: []string{"c", "d"}, Stat: api.Stat{Kind: 3, Size: 4, Links: 5, Blocks: 6, N: 7}}
	}
	if !model.Same(whole(), whole()) || !model.Same(api.Result{}, api.Result{Data: []byte{}, Names: []string{}}) {
		t.Error("what is the same is not")
	}
	for i, change := range []func(*api.Result){
		func(r *api.Result) { r.E = 2 }, func(r *api.Result) { r.H = 1 }, func(r *api.Result) { r.Data = nil }, func(r *api.Result) { r.Data[1] = 'a' }, func(r *api.Result) { r.Data = r.Data[:1] },
		func(r *api.Result) { r.Data = append(r.Data, 0) }, func(r *api.Result) { r.Names = nil }, func(r *api.Result) { r.Names[0] = "d" }, func(r *api.Result) { r.Names = []string{"d", "c"} }, func(r *api.Result) { r.Names = append(r.Names, "") },
		func(r *api.Result) { r.Stat.Kind = 0 }, func(r *api.Result) { r.Stat.Size = 0 }, func(r *api.Result) { r.Stat.Links = 0 }, func(r *api.Result) { r.Stat.Blocks = 0 }, func(r *api.Result) { r.Stat.N = 0 },
	} {
		r := whole()
		change(&r)
		if model.Same(r, whole()) || model.Same(whole(), r) || !model.Same(r, r) {
			t.Errorf("change %d is not seen", i)
		}
	}
}
