package tree_test

import (
	"math"
	"slices"
	"strconv"
	"testing"

	"whim/tree"
)

// plain is a sorted list of keys, each with a value.
type plain struct {
	keys   []int
	values []string
}

func (p *plain) put(k int, v string) bool {
	i, is := slices.BinarySearch(p.keys, k)
	if is {
		p.values[i] = v
		return false
	}
	p.keys, p.values = slices.Insert(p.keys, i, k), slices.Insert(p.values, i, v)
	return true
}

func (p *plain) get(k int) (string, bool) {
	i, is := slices.BinarySearch(p.keys, k)
	if !is {
		return "", false
	}
	return p.values[i], true
}

func (p *plain) cut(k int) bool {
	i, is := slices.BinarySearch(p.keys, k)
	if is {
		p.keys, p.values = slices.Delete(p.keys, i, i+1), slices.Delete(p.values, i, i+1)
	}
	return is
}

func (p *plain) from(k, most int) ([]int, []string) {
	i, _ := slices.BinarySearch(p.keys, k)
	n := len(p.keys) - i
	if most >= 0 {
		n = min(n, most)
	}
	return p.keys[i : i+n], p.values[i : i+n]
}

// both is a tree and a plain one, to which the same is done.
type both struct {
	x    *tree.Tree[int, string]
	p    *plain
	puts int
}

func start() *both {
	return &both{x: tree.Make[int, string](), p: &plain{}}
}

func (b *both) put(t *testing.T, k int) {
	t.Helper()
	b.puts++
	v := strconv.Itoa(b.puts)
	if got, asked := b.x.Put(k, v), b.p.put(k, v); got != asked {
		t.Fatalf("Put of %d: %t", k, got)
	}
	b.same(t, k)
}

func (b *both) cut(t *testing.T, k int) {
	t.Helper()
	if got, asked := b.x.Cut(k), b.p.cut(k); got != asked {
		t.Fatalf("Cut of %d: %t", k, got)
	}
	b.same(t, k)
}

// same holds the two against each other at a key and its neighbours.
func (b *both) same(t *testing.T, k int) {
	t.Helper()
	if b.x.Len() != len(b.p.keys) {
		t.Fatalf("Len: %d; asked for: %d", b.x.Len(), len(b.p.keys))
	}
	wantBalanced(t, b.x)
	for _, k := range []int{k - 1, k, k + 1} {
		v, ok := b.x.Get(k)
		if asked, is := b.p.get(k); v != asked || ok != is {
			t.Fatalf("Get of %d: %s, %t; asked for: %s, %t", k, v, ok, asked, is)
		}
		b.sameFrom(t, k, 3)
	}
}

func (b *both) sameFrom(t *testing.T, k, most int) {
	t.Helper()
	ks, vs := b.x.From(k, most)
	if askedKs, askedVs := b.p.from(k, most); !slices.Equal(ks, askedKs) || !slices.Equal(vs, askedVs) {
		t.Fatalf("From of %d, %d: %v, %v; asked for: %v, %v", k, most, ks, vs, askedKs, askedVs)
	}
}

// orders are the numbers from 0 to n - 1, ascending, descending, from outside in, from inside out, and mixed.
func orders(n int) [][]int {
	var up, in []int
	for k := range n {
		up = append(up, k)
		if k%2 == 0 {
			in = append(in, k/2)
		} else {
			in = append(in, n-1-k/2)
		}
	}
	down, out := slices.Clone(up), slices.Clone(in)
	slices.Reverse(down)
	slices.Reverse(out)
	l := [][]int{up, down, in, out}
	for seed := range uint32(3) {
		mixed, next := slices.Clone(up), numbers(seed)
		for i := range mixed {
			j := i + next(n-i)
			mixed[i], mixed[j] = mixed[j], mixed[i]
		}
		l = append(l, mixed)
	}
	return l
}

// numbers returns a function whose numbers are mixed, and always the same.
func numbers(seed uint32) func(n int) int {
	return func(n int) int {
		seed = seed*1664525 + 1013904223
		return int(seed>>8) % n
	}
}

func TestPutsAndCutsInAllOrders(t *testing.T) {
	for _, n := range []int{0, 1, 2, 3, 4, 5, 6, 8, 9, 16, 17, 23, 31, 64, 65, 100, 257} {
		for _, puts := range orders(n) {
			for _, cuts := range orders(n) {
				b := start()
				for _, k := range puts {
					b.put(t, k)
				}
				b.sameFrom(t, math.MinInt, -1)
				for _, k := range cuts {
					b.cut(t, k)
				}
				wantShape(t, b.x, "0")
			}
		}
	}
}

func TestManyKeys(t *testing.T) {
	for _, order := range orders(2000) {
		b := start()
		for _, k := range order {
			b.put(t, k)
		}
		b.sameFrom(t, 0, -1)
		b.sameFrom(t, 1234, 999)
		for i, k := range order {
			if i%3 > 0 {
				b.cut(t, k)
			}
		}
		b.sameFrom(t, 0, -1)
		for _, k := range order {
			b.cut(t, k)
		}
		wantShape(t, b.x, "0")
	}
}

// TestLongRuns goes through many mixed steps; stretches of many Puts and of many Cuts take turns.
func TestLongRuns(t *testing.T) {
	depths := map[int]bool{}
	for _, keys := range []int{3, 6, 12, 40, 150, 600} {
		b, next := start(), numbers(uint32(keys))
		for i := range 6000 {
			k := 2 * next(keys)
			if next(8) < 2+4*(i/(2*keys)%2) {
				b.cut(t, k)
			} else {
				b.put(t, k)
			}
			if i%10 == 0 {
				b.sameFrom(t, next(2*keys)-1, next(20)-1)
				b.sameFrom(t, -1, -1)
			}
			depths[len(b.x.Shape())] = true
		}
	}
	for d := 1; d <= 5; d++ {
		if !depths[d] {
			t.Errorf("no tree was %d deep", d)
		}
	}
}

func TestSameCallsHaveSameAnswers(t *testing.T) {
	x, y := start(), start()
	next := numbers(5)
	for range 3000 {
		k := next(200)
		if next(2) == 0 {
			x.put(t, k)
			y.put(t, k)
		} else {
			x.cut(t, k)
			y.cut(t, k)
		}
		wantShape(t, x.x, text(y.x.Shape()))
	}
}

// state is a tree that some calls lead to: first come the Puts and Cuts that do, a Cut of k being -1-k.
type state []int

func (s state) build() *both {
	b := start()
	for _, c := range s {
		if c < 0 {
			b.x.Cut(-1 - c)
			b.p.cut(-1 - c)
		} else {
			b.x.Put(c, "")
			b.p.put(c, "")
		}
	}
	return b
}

// TestEveryTreeOfFewKeys does each Put and each Cut of so many keys on each tree that any of them lead to.
func TestEveryTreeOfFewKeys(t *testing.T) {
	const keys = 12
	name := func(b *both) string {
		s := text(b.x.Shape())
		for _, k := range b.p.keys {
			s += "," + strconv.Itoa(k)
		}
		return s
	}
	seen := map[string]bool{name(start()): true}
	open := []state{nil}
	depth := 0
	for len(open) > 0 {
		s := open[0]
		open = open[1:]
		for c := -keys; c < keys; c++ {
			b := s.build()
			if c < 0 {
				b.cut(t, -1-c)
			} else {
				b.put(t, c)
			}
			b.sameFrom(t, 0, -1)
			depth = max(depth, len(b.x.Shape()))
			if n := name(b); !seen[n] {
				seen[n] = true
				open = append(open, append(slices.Clone(s), c))
			}
		}
	}
	if len(seen) < 1<<keys || depth < 3 {
		t.Errorf("%d trees, %d deep", len(seen), depth)
	}
}
