package node

import (
	"testing"

	"sacristan/api"
)

// Each field is told once, and all of them are a record.
func TestFields(t *testing.T) {
	var x api.Inode
	wide := 0
	for i, f := range fields(&x) {
		*f.at = i + 1
		wide += f.wide
	}
	want := api.Inode{Kind: 1, Links: 2, Size: 3, Ptr: [6]int{4, 5, 6, 7, 8, 9}, Index: 10}
	if x != want || wide != 35 {
		t.Errorf("they tell %v, %d bytes", x, wide)
	}
	if mostLinks != 65535 {
		t.Errorf("there may be %d links", mostLinks)
	}
}

// Whoever has enough of it is told no more.
func TestLeft(t *testing.T) {
	for n := 1; n < 9; n++ {
		told := 0
		for s := range spans(100, 2400) {
			if s.Block != told {
				t.Errorf("block %d is told as %d", told, s.Block)
			}
			told++
			if told == n {
				break
			}
		}
		if told != n {
			t.Errorf("%d are told, not %d", told, n)
		}
	}
}
