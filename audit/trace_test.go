package audit

import (
	"testing"

	"sacristan/api"
)

// Who stops asking for rows is told no more; who asks again is told from the beginning.
func TestRowsStop(t *testing.T) {
	bump := api.Trace{Kind: api.DidBump}
	all := rows([]api.Trace{bump, {}, bump, bump, {}})
	for range 2 {
		n := 0
		for row := range all {
			n++
			if len(row) != n {
				t.Errorf("row %d has %d", n, len(row))
			}
			if n == 2 {
				break
			}
		}
		if n != 2 {
			t.Errorf("there are %d rows", n)
		}
	}
	n := 0
	for range rows(nil) {
		n++
	}
	if n != 1 {
		t.Errorf("of nothing there are %d rows", n)
	}
}

// A slot has as many bytes as it has, whatever was written.
func TestKept(t *testing.T) {
	if b := kept(nil); len(b) != 272 {
		t.Errorf("of nothing %d bytes are kept", len(b))
	}
	for _, n := range []int{0, 1, 271, 272, 273, 5000} {
		x := &api.Trace{Bytes: make([]byte, n)}
		for i := range x.Bytes {
			x.Bytes[i] = 1
		}
		ones := 0
		b := kept(x)
		for _, c := range b {
			ones += int(c)
		}
		if len(b) != 272 || ones != min(n, 272) || len(x.Bytes) != n {
			t.Errorf("of %d bytes there are %d kept, of %d", n, ones, len(b))
		}
	}
}
