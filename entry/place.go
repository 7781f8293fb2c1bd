package entry

import (
	"slices"
	"strings"

	"sacristan/api"
)

// rise tells whether each name is above the one ahead of it, byte by byte.
func rise(l []api.Entry) bool {
	for i := 1; i < len(l); i++ {
		if l[i-1].Name >= l[i].Name {
			return false
		}
	}
	return true
}

// place is where the first one of that name is; if there is none, where the first one is whose name is above it, or the end.
func place(l []api.Entry, name string) (int, bool) {
	order := func(x api.Entry) int {
		return strings.Compare(x.Name, name)
	}
	if rise(l) {
		return slices.BinarySearchFunc(l, 0, func(x api.Entry, same int) int {
			return order(x) - same
		})
	}
	return oneByOne(l, order)
}

// oneByOne is place where nothing is known of how they stand: the name itself may be behind one that is above it.
func oneByOne(l []api.Entry, order func(api.Entry) int) (int, bool) {
	above := len(l)
entries:
	for i, x := range l {
		switch o := order(x); {
		case o == 0:
			return i, true
		case o < 0:
			continue entries
		}
		above = min(above, i)
	}
	return above, false
}
