package path_test

import (
	"math/rand"
	"slices"
	"strings"
	"testing"

	"sacristan/api"
	"sacristan/entry"
	"sacristan/path"
)

// long is a name that has the most bytes it may.
var long = strings.Repeat("x", api.MaxName)

// abs is a path from the top on, rel one from where one is.
func abs(names ...string) api.Path { return api.Path{Abs: true, Names: names} }

func rel(names ...string) api.Path { return api.Path{Names: names} }

// equal tells by no call of the package whether two paths are the same.
func equal(p, q api.Path) bool {
	return p.Abs == q.Abs && slices.Equal(p.Names, q.Names)
}

// zero tells whether p is nothing.
func zero(p api.Path) bool { return !p.Abs && len(p.Names) == 0 }

// parsed asks that s is that path.
func parsed(t *testing.T, s string, want api.Path) {
	t.Helper()
	if p, e := path.Parse(s); e != api.OK || !equal(p, want) {
		t.Errorf("%q is %v, %d", s, p, e)
	}
}

// refused asks that s is no path.
func refused(t *testing.T, s string) {
	t.Helper()
	if p, e := path.Parse(s); e != api.ErrName || !zero(p) {
		t.Errorf("%q is %v, %d", s[:min(len(s), 40)], p, e)
	}
}

// The chapter's example.
func TestExample(t *testing.T) {
	parsed(t, "/a//./b/", abs("a", "b"))
}

func TestParse(t *testing.T) {
	for s, want := range map[string]api.Path{
		"/": abs(), "//": abs(), "///": abs(), "/.": abs(), "/./": abs(), "/././/.": abs(),
		".": rel(), "./": rel(), "./.": rel(), ".//./": rel(),
		"a": rel("a"), "a/": rel("a"), "a//": rel("a"), "./a": rel("a"), "a/.": rel("a"), "a/./": rel("a"),
		"/a": abs("a"), "//a": abs("a"), "/./a": abs("a"), "/a/": abs("a"),
		"a/b": rel("a", "b"), "b/a": rel("b", "a"), "a//b": rel("a", "b"), "a/./b": rel("a", "b"), "a/a/a": rel("a", "a", "a"),
		"..": rel(".."), "/..": abs(".."), "../": rel(".."), "../..": rel("..", ".."), "a/..": rel("a", ".."), "../a": rel("..", "a"), "/a/../b": abs("a", "..", "b"), "./../.": rel(".."),
		"...": rel("..."), "/.../": abs("..."), "....": rel("...."), ".a": rel(".a"), "a.": rel("a."), "..a": rel("..a"), "a..": rel("a.."), ". ": rel(". "), " .": rel(" ."),
		" ": rel(" "), "/ /": abs(" "), "\n": rel("\n"), "a\\b": rel("a\\b"), "\u2044": rel("\u2044"), "\u00e9/\u20ac": rel("\u00e9", "\u20ac"), "\xff/\x80": rel("\xff", "\x80"), "\xc0\xaf": rel("\xc0\xaf"),
		long: rel(long), "/" + long + "/": abs(long), long + "/" + long: rel(long, long),
	} {
		parsed(t, s, want)
	}
}

func TestParseNames(t *testing.T) {
	for _, x := range []string{"\x00", "a\x00", "\x00a", "..\x00", ".\x00", long + "x", strings.Repeat(".", 28), strings.Repeat("\u20ac", 10), "\xff\x00"} {
		for _, s := range []string{x, "/" + x, x + "/", "./" + x, "../" + x, x + "/..", "a/" + x, x + "/a", "/a/" + x + "/b/"} {
			refused(t, s)
		}
	}
	refused(t, "")
	refused(t, "a/b/c\x00/d")
}

// Of all bytes one is no part of a name, and one stands between names.
func TestParseBytes(t *testing.T) {
	for c := range 256 {
		s := string([]byte{'a', byte(c), 'b'})
		switch c {
		case 0:
			refused(t, s)
		case '/':
			parsed(t, s, rel("a", "b"))
		default:
			parsed(t, s, rel(s))
		}
	}
}

// A path has at most 200 bytes, whatever they are.
func TestParseLong(t *testing.T) {
	names := func(n int) []string { return strings.Split(strings.Repeat("a", n), "") }
	parsed(t, strings.Repeat("a/", 100), rel(names(100)...))
	parsed(t, strings.Repeat("/a", 100), abs(names(100)...))
	parsed(t, strings.Repeat("a/", 99)+"a", rel(names(100)...))
	parsed(t, strings.Repeat("a/", 99)+"ab", rel(append(names(99), "ab")...))
	parsed(t, strings.Repeat("/", 199), abs())
	parsed(t, strings.Repeat("/", 200), abs())
	parsed(t, strings.Repeat("./", 100), rel())
	for _, s := range []string{strings.Repeat("a/", 100) + "a", strings.Repeat("a/", 100) + "/", "/" + strings.Repeat("a/", 100), strings.Repeat("/", 201), strings.Repeat("./", 101), strings.Repeat("\u20ac/", 51), strings.Repeat("/", 1<<20), strings.Repeat("a", 1<<20), strings.Repeat(long+"/", 1<<14)} {
		refused(t, s)
	}
}

// byBytes parses a text byte by byte.
func byBytes(s string) (api.Path, api.Errno) {
	if len(s) < 1 || len(s) > 200 {
		return api.Path{}, api.ErrName
	}
	p, part := api.Path{Abs: s[0] == '/'}, ""
	for i := 0; i <= len(s); i++ {
		if i < len(s) && s[i] != '/' {
			part += s[i : i+1]
			continue
		}
		if part != "" && part != "." {
			if part != ".." && !entry.Named(part) {
				return api.Path{}, api.ErrName
			}
			p.Names = append(p.Names, part)
		}
		part = ""
	}
	return p, api.OK
}

func TestParseAny(t *testing.T) {
	r := rand.New(rand.NewSource(15))
	good := 0
	for range 50000 {
		var b strings.Builder
		for range r.Intn(12) {
			b.WriteString([]string{"/", "/", "/", ".", "..", "a", "b", "\xff", long[:25], "\u20ac", "/./", "/../"}[r.Intn(12)])
		}
		if r.Intn(20) == 0 {
			b.WriteByte(0)
		}
		s := b.String()
		want, f := byBytes(s)
		p, e := path.Parse(s)
		if e != f || !equal(p, want) {
			t.Fatalf("%q is %v, %d; %v, %d", s, p, e, want, f)
		}
		if e == api.OK {
			good++
			back(t, p)
		}
	}
	if good < 10000 {
		t.Errorf("just %d were paths", good)
	}
}

// back asks that p, a path that was parsed, is printed, and parsed as it was.
func back(t *testing.T, p api.Path) {
	t.Helper()
	s := path.Print(p)
	if q, e := path.Parse(s); e != api.OK || !equal(p, q) {
		t.Errorf("%v is printed as %q, and that is %v, %d", p, s, q, e)
	}
	// There is no shorter way to print it.
	if strings.Contains(s, "//") || len(s) > 1 && strings.HasSuffix(s, "/") {
		t.Errorf("%v is printed as %q", p, s)
	}
}

func TestPrint(t *testing.T) {
	for s, p := range map[string]api.Path{
		"/": abs(), ".": rel(), "a": rel("a"), "/a": abs("a"), "a/b": rel("a", "b"), "/a/b": abs("a", "b"), "..": rel(".."), "/..": abs(".."), "../../a": rel("..", "..", "a"), "/a/../b": abs("a", "..", "b"), "\xff/\u20ac": rel("\xff", "\u20ac"), "...": rel("..."),
		strings.Repeat("/a", 100): abs(strings.Split(strings.Repeat("a", 100), "")...),
	} {
		if got := path.Print(p); got != s {
			t.Errorf("%v is printed as %q", p, got)
		}
		back(t, p)
	}
	if s := path.Print(api.Path{Abs: true, Names: []string{}}); s != "/" {
		t.Errorf("the top is %q", s)
	}
	if s := path.Print(api.Path{Names: []string{}}); s != "." {
		t.Errorf("nothing is %q", s)
	}
}

// Whatever names are handed in, they are printed, with a slash between.
func TestPrintAny(t *testing.T) {
	for _, c := range []struct {
		p    api.Path
		want string
	}{
		{rel(""), "."}, {abs(""), "/"}, {rel("", ""), "/"}, {abs("", ""), "//"}, {rel("."), "."}, {abs("."), "/."}, {rel("a", "", "b"), "a//b"}, {rel("a/b"), "a/b"}, {rel("/"), "/"}, {abs("/"), "//"}, {rel("\x00"), "\x00"}, {rel(long + "x"), long + "x"}, {rel("", "a"), "/a"}, {rel("a", ""), "a/"},
	} {
		if got := path.Print(c.p); got != c.want {
			t.Errorf("%q is printed as %q", c.p.Names, got)
		}
	}
	many := make([]string, 1<<18)
	for i := range many {
		many[i] = "abc"
	}
	if s := path.Print(abs(many...)); len(s) != 4<<18 || s[:5] != "/abc/" {
		t.Errorf("%d bytes", len(s))
	}
}

func TestJoin(t *testing.T) {
	for _, c := range []struct{ p, q, want api.Path }{
		{rel(), rel(), rel()}, {abs(), rel(), abs()}, {rel(), abs(), abs()}, {abs(), abs(), abs()},
		{rel("a"), rel("b"), rel("a", "b")}, {abs("a"), rel("b"), abs("a", "b")}, {rel("a"), abs("b"), abs("b")}, {abs("a"), abs("b"), abs("b")},
		{rel("a"), rel(), rel("a")}, {abs("a"), rel(), abs("a")}, {rel(), rel("a"), rel("a")}, {abs(), rel("a"), abs("a")}, {rel("a"), abs(), abs()}, {abs("a"), abs(), abs()},
		{abs("a", "b"), rel("..", "c"), abs("a", "b", "..", "c")}, {rel(".."), rel(".."), rel("..", "..")}, {rel("a"), rel("a"), rel("a", "a")},
		{rel("", "."), rel("/"), rel("", ".", "/")}, {abs(""), rel("\x00"), abs("", "\x00")},
	} {
		if got := path.Join(c.p, c.q); !equal(got, c.want) {
			t.Errorf("%v with %v is %v", c.p, c.q, got)
		}
	}
}

func TestLast(t *testing.T) {
	for _, c := range []struct {
		p, want api.Path
		name    string
	}{
		{rel("a"), rel(), "a"}, {abs("a"), abs(), "a"}, {rel("a", "b"), rel("a"), "b"}, {abs("a", "b"), abs("a"), "b"}, {abs("..", "b"), abs(".."), "b"}, {rel("a", "..", "b"), rel("a", ".."), "b"}, {rel("a", "a"), rel("a"), "a"}, {rel("..", "..."), rel(".."), "..."},
		{rel("."), rel(), "."}, {rel(""), rel(), ""}, {abs("a", ""), abs("a"), ""}, {rel("a", "../"), rel("a"), "../"}, {abs("/"), abs(), "/"},
	} {
		if p, s, e := path.Last(c.p); e != api.OK || !equal(p, c.want) || s != c.name {
			t.Errorf("%v is %v, %q, %d", c.p, p, s, e)
		}
	}
	for _, x := range []api.Path{rel(), abs(), {Names: []string{}}, {Abs: true, Names: []string{}}, rel(".."), abs(".."), rel("a", ".."), abs("a", "b", ".."), abs("..", "..")} {
		if p, s, e := path.Last(x); e != api.ErrName || s != "" || !zero(p) {
			t.Errorf("%v is %v, %q, %d", x, p, s, e)
		}
	}
}

// Whatever has a last name is that behind what it is without.
func TestLastJoined(t *testing.T) {
	r := rand.New(rand.NewSource(5))
	for range 3000 {
		p := api.Path{Abs: r.Intn(2) == 0}
		for range 1 + r.Intn(6) {
			p.Names = append(p.Names, []string{"a", "b", "..", "..."}[r.Intn(4)])
		}
		d, s, e := path.Last(p)
		if up := p.Names[len(p.Names)-1] == ".."; up != (e == api.ErrName) {
			t.Fatalf("%v: %d", p, e)
		}
		if e == api.OK && !path.Same(path.Join(d, rel(s)), p) {
			t.Fatalf("%v is %v, %q", p, d, s)
		}
	}
}

func TestSame(t *testing.T) {
	all := []api.Path{rel(), abs(), rel("a"), abs("a"), rel("b"), rel("a", "b"), rel("b", "a"), abs("a", "b"), rel("a", "b", "c"), rel("a/b"), rel(""), rel("."), rel("", ""), rel(".."), rel("A"), rel("a", "..")}
	for i, p := range all {
		for k, q := range all {
			if path.Same(p, q) != (i == k) {
				t.Errorf("%v and %v: %v", p, q, i != k)
			}
		}
		if !path.Same(p, api.Path{Abs: p.Abs, Names: append([]string{}, p.Names...)}) {
			t.Errorf("%v is not as its copy is", p)
		}
	}
}

// What comes out is new, and room behind it is nobody else's.
func TestNothingShared(t *testing.T) {
	room := api.Path{Abs: true, Names: append(make([]string, 0, 20), "a", "b", "c")}
	more := api.Path{Names: append(make([]string, 0, 20), "d", "e")}
	none := api.Path{Names: make([]string, 0, 20)}
	last, _, _ := path.Last(room)
	one, _ := path.Parse("x/y/z")
	again, _ := path.Parse("x/y/z")
	lists := []api.Path{room, more, none, last, one, again,
		path.Join(room, more), path.Join(room, more), path.Join(more, room), path.Join(room, none), path.Join(none, room), path.Join(none, more), path.Join(more, none), path.Join(room, room)}
	for i, p := range lists {
		was := make([]api.Path, len(lists))
		for k, q := range lists {
			was[k] = api.Path{Abs: q.Abs, Names: slices.Clone(q.Names[:cap(q.Names)])}
		}
		l := p.Names[:cap(p.Names)]
		for k := range l {
			l[k] = "changed"
		}
		for k, q := range lists {
			if k != i && !slices.Equal(q.Names[:cap(q.Names)], was[k].Names) {
				t.Errorf("list %d is changed as list %d", k, i)
			}
		}
	}
}

// Nothing that is handed in is changed, nor the room behind it.
func TestNothingChanged(t *testing.T) {
	p := api.Path{Abs: true, Names: append(make([]string, 0, 6), "a", "b")}
	q := api.Path{Names: append(make([]string, 0, 6), "c", "d")}
	path.Join(p, q)
	path.Join(q, p)
	path.Last(p)
	path.Print(p)
	path.Same(p, q)
	if !slices.Equal(p.Names[:6], []string{"a", "b", "", "", "", ""}) || !slices.Equal(q.Names[:6], []string{"c", "d", "", "", "", ""}) || !p.Abs || q.Abs {
		t.Errorf("%v, %v", p, q)
	}
}
