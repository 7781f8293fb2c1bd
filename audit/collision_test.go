package audit_test

import (
	"math/rand"
	"slices"
	"testing"

	"sacristan/api"
	"sacristan/audit"
	"sacristan/sum"
)

// broken is how often each of 32 places, without bytes, has to be taken, so that by the key "key" they add up to noughts,
// modulo 2^256: found by reducing a lattice, as whoever has the key may do.
var broken = [32]int{
	-201, -99, 39, 5, -48, -68, -12, 119, 97, -15, -41, -93, -7, -74, -96, -29,
	-39, 28, -43, -143, 56, -15, 35, 102, 82, -20, -119, 35, -5, 76, -5, 10,
}

// colliding are two heaps, one of what is taken, one of what is taken away.
func colliding() (a, b []api.Item) {
	for at, n := range broken {
		a = append(a, slices.Repeat([]api.Item{{At: at}}, max(n, 0))...)
		b = append(b, slices.Repeat([]api.Item{{At: at}}, max(-n, 0))...)
	}
	return a, b
}

// Heaps that are not the same, but whose sums are, by just that key.
func TestCollision(t *testing.T) {
	key := []byte("key")
	a, b := colliding()
	if sum.All(key, a...) != sum.All(key, b...) || audit.Same(a, b) {
		t.Fatal("these heaps do not break sums")
	}
	if !audit.Collision(key, a, b) || !audit.Collision(key, b, a) {
		t.Error("broken sums are not seen")
	}
	both := []api.Item{item(1, "something"), {At: 3}}
	if !audit.Collision(key, append(slices.Clone(a), both...), append(slices.Clone(both), b...)) {
		t.Error("with something beside them broken sums are not seen")
	}
	for _, other := range []string{"", "keY", "key2", "ke"} {
		if audit.Collision([]byte(other), a, b) {
			t.Errorf("by the key %q sums are broken", other)
		}
	}
	if audit.Collision(nil, a, b) {
		t.Error("by no key sums are broken")
	}
	if audit.Collision(key, a, b[1:]) || audit.Collision(key, a, append(slices.Clone(b), api.Item{At: 0})) || audit.Collision(key, a, nil) || audit.Collision(key, nil, b) {
		t.Error("other heaps break sums")
	}
}

// Heaps that are the same have the same sum, in whatever order: nothing is broken by that.
func TestSameIsNoCollision(t *testing.T) {
	r := rand.New(rand.NewSource(7))
	a, b := colliding()
	for _, l := range [][]api.Item{nil, {{}}, a, b, slices.Concat(a, b), heap(r, 50)} {
		other := slices.Clone(l)
		r.Shuffle(len(other), func(i, k int) { other[i], other[k] = other[k], other[i] })
		for _, key := range [][]byte{nil, []byte("key"), make([]byte, 100)} {
			if !audit.Same(l, other) || sum.All(key, l...) != sum.All(key, other...) {
				t.Errorf("of %d Items in another order there is another sum", len(l))
			}
			if audit.Collision(key, l, other) {
				t.Errorf("%d Items in another order break sums", len(l))
			}
		}
	}
}
