package tree

import (
	"cmp"
	"slices"
	"testing"
)

// wantWhole holds what a tree keeps against what it tells of itself.
func wantWhole(t *testing.T, x *Tree[int, *int]) {
	t.Helper()
	var shape [][]int
	var keys []int
	var walk func(p *part[int, *int], depth int)
	walk = func(p *part[int, *int], depth int) {
		if len(p.pairs) > 0 && len(p.kids) > 0 {
			t.Fatalf("a part that is a leaf and a node")
		}
		if depth == len(shape) {
			shape = append(shape, nil)
		}
		shape[depth] = append(shape[depth], len(p.pairs)+len(p.kids))
		for _, x := range p.pairs {
			keys = append(keys, x.key)
		}
		wantCleared(t, p.pairs)
		wantCleared(t, p.kids)
		for _, kid := range p.kids {
			first := len(keys)
			walk(kid.item, depth+1)
			if kid.key != keys[first] {
				t.Fatalf("a child under %d, in which %d is the least key", kid.key, keys[first])
			}
		}
	}
	walk(&x.body.root, 0)
	if !slices.EqualFunc(shape, x.Shape(), slices.Equal[[]int]) {
		t.Fatalf("Shape: %v, of a tree that is %v", x.Shape(), shape)
	}
	if all, _ := x.From(0, -1); !slices.Equal(all, keys) || x.Len() != len(keys) {
		t.Fatalf("From: %v, Len: %d, of a tree that has %v", all, x.Len(), keys)
	}
}

// wantCleared is that nothing is kept behind the end of a list: what was cut from a tree is not held any more.
func wantCleared[K cmp.Ordered, T comparable](t *testing.T, l list[K, T]) {
	t.Helper()
	for _, x := range l[len(l):cap(l)] {
		if x != (pair[K, T]{}) {
			t.Fatalf("something is kept behind the end of a list")
		}
	}
}

func TestTreeIsWhatItTellsAndKeepsNothingElse(t *testing.T) {
	x := Make[int, *int]()
	seed := uint32(3)
	for i := range 20000 {
		seed = seed*1664525 + 1013904223
		k := int(seed>>8) % 300
		if i/400%2 == 0 || seed>>30 == 0 {
			x.Put(k, new(int))
		} else {
			x.Cut(k)
		}
		wantWhole(t, x)
	}
	for k := range 300 {
		x.Cut(k)
		wantWhole(t, x)
	}
}
