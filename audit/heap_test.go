package audit

import (
	"testing"

	"sacristan/api"
)

// Who stops asking for what is left is told no more; who asks again is told from the beginning.
func TestWithoutStops(t *testing.T) {
	l := []api.Item{{At: 1}, {At: 2}, {At: 1}, {At: 3}}
	left := without(l, []api.Item{{At: 1}})
	for range 2 {
		n := 0
		for x := range left {
			if x.At != 2-n {
				t.Errorf("what is left begins with %v", x)
			}
			n++
			if n == 2 {
				break
			}
		}
		if n != 2 {
			t.Errorf("%d are left", n)
		}
	}
}
