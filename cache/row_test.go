package cache

import (
	"math/rand"
	"slices"
	"testing"
)

// A row has each thing once, from the oldest to the newest, whatever was done to it, and of whatever type.
func TestRow(t *testing.T) {
	r := rand.New(rand.NewSource(1))
	var got row[string]
	var want []string
	for range 3000 {
		x := string(rune('a' + r.Intn(9)))
		want = slices.DeleteFunc(want, func(y string) bool { return y == x })
		if r.Intn(3) > 0 {
			got.renew(x)
			want = append(want, x)
		} else {
			got.drop(x)
		}
		if !slices.Equal(got.all(), want) {
			t.Fatalf("there are %q, not %q", got.all(), want)
		}
		if len(want) > 0 && got.oldest() != want[0] {
			t.Fatalf("the oldest is %q, not %q", got.oldest(), want[0])
		}
	}
}

func TestRowOfNothing(t *testing.T) {
	var r row[int]
	r.drop(0)
	if len(r.all()) != 0 {
		t.Errorf("there are %v", r.all())
	}
	r.renew(0)
	r.drop(1)
	if !slices.Equal(r.all(), []int{0}) {
		t.Errorf("there are %v", r.all())
	}
}

func TestRowIsNobodyElses(t *testing.T) {
	var r row[int]
	for x := range 5 {
		r.renew(x)
	}
	l := r.all()
	l[0] = 7
	_ = append(l[:1], 8)
	r.renew(5)
	if !slices.Equal(r.all(), []int{0, 1, 2, 3, 4, 5}) || r.oldest() != 0 || l[4] != 4 {
		t.Errorf("there are %v, and %v", r.all(), l)
	}
}
