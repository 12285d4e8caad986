package deed_test

import (
	"math"
	"slices"
	"testing"

	"whim/api"
	"whim/deed"
)

// plain is a stack that keeps with each savepoint all the numbers that there were.
type plain struct {
	lsns  []int // the newest first
	saves map[int][]int
}

func newPlain() *plain {
	return &plain{saves: map[int][]int{}}
}

func (p *plain) push(lsn int) {
	p.lsns = append([]int{lsn}, p.lsns...)
}

func (p *plain) save(n int) bool {
	if n < 0 || n >= api.MaxSaves {
		return false
	}
	p.saves[n] = p.lsns
	return true
}

func (p *plain) back(n int) ([]int, bool) {
	old, ok := p.saves[n]
	if !ok {
		return nil, false
	}
	gone := p.lsns[:len(p.lsns)-len(old)]
	p.lsns = old
	for other, l := range p.saves {
		if len(l) > len(old) {
			delete(p.saves, other)
		}
	}
	return gone, true
}

// both is a stack and a plain one that go the same steps.
type both struct {
	s *deed.Stack
	p *plain
}

func newBoth() both {
	return both{deed.New(), newPlain()}
}

func (b both) push(t *testing.T, lsn int) {
	t.Helper()
	b.s.Push(lsn)
	b.p.push(lsn)
	b.wantSame(t)
}

func (b both) save(t *testing.T, n int) {
	t.Helper()
	got, want := b.s.Save(n), b.p.save(n)
	if got != want {
		t.Fatalf("Save(%d): %t; asked for: %t", n, got, want)
	}
	b.wantSame(t)
}

func (b both) back(t *testing.T, n int) (ok bool) {
	t.Helper()
	l, ok := b.s.Back(n)
	want, is := b.p.back(n)
	if ok != is || !slices.Equal(l, want) {
		t.Fatalf("Back(%d): %d, %t; asked for: %d, %t", n, l, ok, want, is)
	}
	b.wantSame(t)
	return ok
}

// wantSame holds that both have the same numbers.
func (b both) wantSame(t *testing.T) {
	t.Helper()
	if got := b.s.All(); !slices.Equal(got, b.p.lsns) || b.s.Len() != len(b.p.lsns) {
		t.Fatalf("All: %d, Len: %d; asked for: %d", got, b.s.Len(), b.p.lsns)
	}
}

// TestEveryShortRun goes through all runs of six steps.
func TestEveryShortRun(t *testing.T) {
	const length, kinds = 6, 1 + 2*api.MaxSaves
	runs := 1
	for range length {
		runs *= kinds
	}
	for run := range runs {
		b := newBoth()
		rest := run
		for i := range length {
			switch kind := rest % kinds; {
			case kind == 0:
				b.push(t, 10+i)
			case kind <= api.MaxSaves:
				b.save(t, kind-1)
			default:
				b.back(t, kind-1-api.MaxSaves)
			}
			rest /= kinds
		}
	}
}

// TestLongRuns goes through many mixed steps, in an order that is always the same.
func TestLongRuns(t *testing.T) {
	seed := uint32(14)
	next := func(n int) int {
		seed = seed*1664525 + 1013904223
		return int(seed>>16) % n
	}
	numbers := []int{math.MinInt, -1, 0, 1, 7, 7, 1 << 32, math.MaxInt}
	for _, pushes := range []int{1, 4, 16, 64} { // to each Save or Back
		b := newBoth()
		there, not := 0, 0
		for range 4000 {
			if next(pushes+1) > 0 {
				b.push(t, numbers[next(len(numbers))])
				continue
			}
			n := next(api.MaxSaves+4) - 2
			if next(2) == 0 {
				b.save(t, n)
			} else if b.back(t, n) {
				there++
			} else {
				not++
			}
		}
		if there < 10 || not < 10 {
			t.Errorf("Back to %d savepoints that there were, and to %d that there weren't", there, not)
		}
	}
}

// TestLongStack goes to and fro between the savepoints of a stack of many numbers.
func TestLongStack(t *testing.T) {
	const n = 1 << 18
	s := deed.New()
	for at := range api.MaxSaves {
		if !s.Save(at) {
			t.Fatalf("Save(%d): false", at)
		}
		for i := range n {
			s.Push(at*n + i)
		}
	}
	for range 1000 { // nothing is above it: each Back is short
		if l, ok := s.Back(api.MaxSaves - 1); !ok || len(l) > n {
			t.Fatalf("Back: %d numbers, %t", len(l), ok)
		}
	}
	for at := api.MaxSaves - 2; at >= 0; at-- {
		l, ok := s.Back(at)
		if !ok || len(l) != n || l[0] != (at+1)*n-1 || l[n-1] != at*n || s.Len() != at*n {
			t.Fatalf("Back(%d): %d numbers, %t; and %d are left", at, len(l), ok, s.Len())
		}
	}
}
