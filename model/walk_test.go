package model_test

import (
	"math"
	"strconv"
	"strings"
	"testing"

	"sacristan/api"
)

func TestWalk(t *testing.T) {
	a := ask(t, 40, 40)
	a.does(mkdir("/d"), mkdir("/d/e"), mkdir("/d/e/g"), create("/d/e/f"), create("/f"), mkdir("/z"))
	dir := func(s string, n int) {
		t.Helper()
		a.tells(stat(s), api.Result{Stat: api.Stat{Kind: api.Dir, Size: 32 * n, Links: 1, Blocks: min(n, 1)}})
	}
	// Where it is not from the top on, it is all the same.
	for _, s := range []string{"/", ".", "..", "/..", "../..", "/../.", "d/..", "/d/e/../..", "/d/e/../../../..", "//", "/d/../d/../z/.."} {
		dir(s, 3)
	}
	for _, s := range []string{"/d/e", "d/e", "/../d/e", "d/e/", "/d//e//", "./d/./e/.", "/d/e/g/..", "/d/e/g/../../e", "/z/../d/../d/e"} {
		dir(s, 2)
	}
	a.fails(api.ErrNone, stat("/x"), stat("/d/x"), stat("/d/f"), stat("/e"), stat("/x/.."), stat("/x/f"), stat("/d/e/g/f"), stat("/F"), stat("/d/E"))
	a.fails(api.ErrNotDir, stat("/f/x"), stat("/f/.."), stat("/f/f"), stat("/d/e/f/g"), stat("/f/../f"), stat("/f/x/y"), list("/f"), list("/d/e/f"))
	a.fails(api.ErrName, stat(""), stat("\x00"), stat("/d/\x00/e"), stat("/f/"+strings.Repeat("x", 28)), stat("/x/"+strings.Repeat("x", 28)), stat(strings.Repeat("/", 201)))
	dir(strings.Repeat("/", 200), 3)
	// What lies behind a name that is no Dir is not asked for, but a blank name is none.
	a.tells(stat("/f/."), api.Result{Stat: api.Stat{Kind: api.File, Links: 1}})
	a.tells(stat("/f//"), api.Result{Stat: api.Stat{Kind: api.File, Links: 1}})
}

func TestWalkThroughLinks(t *testing.T) {
	a := ask(t, 60, 60)
	a.does(mkdir("/d"), mkdir("/d/e"), mkdir("/d/e/g"), mkdir("/z"), create("/d/e/f"), open("/d/e/f"), write(0, 0, "abc"))
	a.does(symlink("e", "/d/on"), symlink("/d/e", "/z/top"), symlink("../d/e", "/z/back"), symlink("d/e/f", "/file"), symlink("/", "/z/root"), symlink(".", "/z/here"), symlink("..", "/z/above"), symlink("top/../on/f", "/z/two"), symlink("nobody", "/none"), symlink("file/x", "/through"))
	whole := api.Result{Stat: api.Stat{Kind: api.File, Size: 3, Links: 1, Blocks: 1}}
	for _, s := range []string{"/d/on/f", "/z/top/f", "/z/back/f", "/file", "/z/root/file", "/z/here/top/f", "/z/above/d/on/f", "/z/two", "/z/root/z/root/file", "/z/here/here/here/../file"} {
		a.tells(stat(s), whole)
	}
	// Behind a link, `..` leads back from where that led to, not from where it stands.
	a.tells(list("/z/top/.."), api.Result{Names: []string{"e", "on"}})
	a.tells(list("/d/on/.."), api.Result{Names: []string{"e", "on"}})
	a.tells(list("/z/back/../.."), a.m.Do(list("/")))
	a.tells(list("/z/root/.."), a.m.Do(list("/")))
	a.tells(list("/z/here"), a.m.Do(list("/z")))
	a.tells(list("/z/above/"), a.m.Do(list("/")))
	a.fails(api.ErrNone, stat("/none"), stat("/none/x"), stat("/none/.."), list("/none"), open("/none"), stat("/z/top/x"), stat("/z/top/on"))
	a.fails(api.ErrNotDir, stat("/through"), stat("/file/x"), stat("/file/.."), list("/file"))
}

// The last name is not gone through where that is said; all others are.
func TestNotThrough(t *testing.T) {
	a := ask(t, 60, 60)
	a.does(mkdir("/d"), create("/d/f"), symlink("d", "/l"), symlink("f", "/d/k"), symlink("l", "/m"), symlink("nobody", "/none"))
	for _, s := range []string{"/l", "l", "/l/", "l/.", "//l//", "d/../l", "m/../l", "/l/../l/."} {
		a.has(s, api.Link, 1, 1, 1)
		a.tells(readlink(s), api.Result{Data: []byte("d")})
		a.tells(stat(s), api.Result{Stat: api.Stat{Kind: api.Dir, Size: 64, Links: 1, Blocks: 1}})
	}
	a.has("/none", api.Link, 6, 1, 1)
	for _, s := range []string{"/d/k", "/l/k", "/m/k"} {
		a.has(s, api.Link, 1, 1, 1)
		a.tells(readlink(s), api.Result{Data: []byte("f")})
		a.tells(stat(s), api.Result{Stat: api.Stat{Kind: api.File, Links: 1}})
	}
	// A name behind it makes it one of the others.
	a.has("/m/..", api.Dir, 32*4, 1, 1)
	a.has("/l/f", api.File, 0, 1, 0)
	// Just N 1 says so.
	for _, n := range []int{math.MinInt, -1, 0, 2, 3, 257, math.MaxInt} {
		a.tells(api.Op{Kind: api.OpStat, Path: "/l", N: n}, a.m.Do(stat("/d")))
	}
	a.fails(api.ErrArg, readlink("/"), readlink("/d"), readlink("/d/f"), readlink("/l/../d"))
	a.fails(api.ErrNone, readlink("/x"), readlink("/none/x"))
	a.fails(api.ErrNotDir, readlink("/d/f/k"), readlink("/l/k/k"))
	a.fails(api.ErrName, readlink(""), readlink(strings.Repeat("x", 28)))
}

// One link that stands in two directories leads from where it is gone through.
func TestLinkOfTwoNames(t *testing.T) {
	a := ask(t, 60, 60)
	a.does(mkdir("/a"), mkdir("/b"), create("/a/f"), mkdir("/b/f"), symlink("f", "/a/l"), link("/a/l", "/b/l"))
	a.has("/a/l", api.Link, 1, 2, 1)
	a.has("/b/l", api.Link, 1, 2, 1)
	a.tells(stat("/a/l"), api.Result{Stat: api.Stat{Kind: api.File, Links: 1}})
	a.tells(stat("/b/l"), api.Result{Stat: api.Stat{Kind: api.Dir, Links: 1}})
	a.uses(6, 4)
}

func TestLoop(t *testing.T) {
	a := ask(t, 60, 60)
	a.does(mkdir("/d"), create("/d/f"), symlink("/d", "/l1"))
	for i := 2; i < 11; i++ {
		a.does(symlink("l"+strconv.Itoa(i-1), "/l"+strconv.Itoa(i)))
	}
	for i := 1; i < 11; i++ {
		s := "/l" + strconv.Itoa(i)
		a.has(s, api.Link, 2, 1, 1)
		if i > api.MaxHops {
			a.fails(api.ErrLoop, stat(s), list(s), open(s), lstat(s+"/f"), stat(s+"/x"), create(s+"/y"), readlink(s+"/f"), unlink(s+"/f"))
			continue
		}
		a.tells(list(s), api.Result{Names: []string{"f"}})
		a.has(s+"/f", api.File, 0, 1, 0)
		a.fails(api.ErrExist, create(s+"/f"))
	}
	// Each walk has hops of its own; within one all count, behind `..` too.
	a.does(link("/l8/f", "/l8/g"), rename("/l8/g", "/l7/h"))
	a.has("/l4/../l4/h", api.File, 0, 2, 0)
	a.has("/l4/../l3/../l1/h", api.File, 0, 2, 0)
	a.fails(api.ErrLoop, lstat("/l4/../l5/h"), lstat("/l4/../l3/../l2/h"), stat("/l4/../l3/../l1/../l1"))
	a.has("/l4/../l4/../l1", api.Link, 2, 1, 1)
	// One that would lead nowhere is not asked where.
	a.does(symlink("nobody", "/none"))
	a.fails(api.ErrNone, stat("/l4/../l3/../none/../x"), stat("/l7/../none"))
	a.fails(api.ErrLoop, stat("/l8/../none"), stat("/l8/../none/x"), stat("/l4/../l4/../none"))
	a.does(symlink("me", "/me"), symlink("/b/x", "/a"), symlink("a", "/b"))
	a.fails(api.ErrLoop, stat("/me"), stat("/me/me"), stat("/a"), stat("/b"), open("/me"), mkdir("/me/x"))
	a.fails(api.ErrExist, mkdir("/me"), create("/a"), symlink("x", "/b"))
}
