package entry

import (
	"math/rand"
	"strings"
	"testing"

	"sacristan/api"
)

// names is entries of those names, each with its place as a node.
func names(l ...string) []api.Entry {
	var x []api.Entry
	for i, s := range l {
		x = append(x, api.Entry{Name: s, Node: i})
	}
	return x
}

func TestRise(t *testing.T) {
	for _, l := range []string{"", "a", "a b", "a aa ab b", "\x01 \x7f \x80 \xff", "B a", "a \u00e9 \u20ac", "9 ;"} {
		if !rise(names(strings.Fields(l)...)) {
			t.Errorf("%q does not rise", l)
		}
	}
	for _, l := range []string{"a a", "b a", "a c b", "aa a", "\xff \x01", "a B", "a b b", "b c a"} {
		if rise(names(strings.Fields(l)...)) {
			t.Errorf("%q rises", l)
		}
	}
}

// Where names rise both ways find the same place.
func TestBothWays(t *testing.T) {
	r := rand.New(rand.NewSource(14))
	for range 2000 {
		var l []api.Entry
		for c := 'a'; c <= 'm'; c++ {
			if r.Intn(2) == 0 {
				l = append(l, api.Entry{Name: string(c), Node: len(l)})
			}
		}
		name := string(rune('a' + r.Intn(14)))
		i, is := place(l, name)
		k, was := oneByOne(l, func(x api.Entry) int { return strings.Compare(x.Name, name) })
		if i != k || is != was {
			t.Fatalf("%q is at %d, %v by halves, and at %d, %v one by one, of %v", name, i, is, k, was, l)
		}
	}
}

// The first of that name is told, though others stand ahead of it; else the first that is above it.
func TestNoOrder(t *testing.T) {
	for _, c := range []struct {
		list string
		name string
		at   int
		is   bool
	}{
		{"b a b", "b", 0, true},
		{"b a b", "a", 1, true},
		{"d c a c", "c", 1, true},
		{"d c a c", "b", 0, false},
		{"a d b e", "c", 1, false},
		{"b b", "a", 0, false},
		{"b b", "b", 0, true},
		{"b b", "c", 2, false},
		{"c a b", "d", 3, false},
		{"a c b d b", "b", 2, true},
	} {
		if i, is := place(names(strings.Fields(c.list)...), c.name); i != c.at || is != c.is {
			t.Errorf("%q is at %d, %v of %q", c.name, i, is, c.list)
		}
	}
}
