package gap_test

import (
	"math"
	"testing"

	"whim/api"
	"whim/gap"
)

// state is what is to be told of a cell.
type state struct {
	at         api.RID
	used, held bool
	who        int
}

// plain is a list of all cells, in ascending order.
type plain []state

func newPlain(pages int) plain {
	var p plain
	for _, at := range every(pages) {
		p = append(p, state{at: at})
	}
	return p
}

// of returns the state of a cell, if there is such a cell.
func (p plain) of(at api.RID) *state {
	for i := range p {
		if p[i].at == at {
			return &p[i]
		}
	}
	return nil
}

func (p plain) use(at api.RID, used bool) bool {
	s := p.of(at)
	if s == nil {
		return false
	}
	s.used = used
	return true
}

func (p plain) hold(who int, at api.RID) bool {
	s := p.of(at)
	if s == nil || s.held && s.who != who {
		return false
	}
	s.held, s.who = true, who
	return true
}

func (p plain) free(who int) {
	for i := range p {
		if p[i].held && p[i].who == who {
			p[i].held = false
		}
	}
}

func (p plain) next(from, to, cells, who int) (api.RID, bool) {
	for _, s := range p {
		if s.at.Page >= from && s.at.Page < to && s.at.Cell < cells && !s.used && (!s.held || s.who == who) {
			return s.at, true
		}
	}
	return api.RID{}, false
}

func (p plain) counts(from, to int) (used, held int) {
	for _, s := range p {
		if s.at.Page >= from && s.at.Page < to {
			if s.used {
				used++
			} else if s.held {
				held++
			}
		}
	}
	return used, held
}

// both is a map and a plain one that go the same steps.
type both struct {
	m *gap.Map
	p plain
}

func newBoth(pages int) both {
	return both{gap.New(pages), newPlain(pages)}
}

func (b both) use(t *testing.T, at api.RID, used bool) {
	t.Helper()
	if got, want := b.m.Use(at, used), b.p.use(at, used); got != want {
		t.Fatalf("Use(%v, %t): %t; asked for: %t", at, used, got, want)
	}
}

func (b both) hold(t *testing.T, who int, at api.RID) {
	t.Helper()
	if got, want := b.m.Hold(who, at), b.p.hold(who, at); got != want {
		t.Fatalf("Hold(%d, %v): %t; asked for: %t", who, at, got, want)
	}
}

func (b both) free(who int) {
	b.m.Free(who)
	b.p.free(who)
}

// wantSame holds that both answer the same to a question.
func (b both) wantSame(t *testing.T, from, to, cells, who int) (ok bool) {
	t.Helper()
	at, ok := b.m.Next(from, to, cells, who)
	if want, is := b.p.next(from, to, cells, who); at != want || ok != is {
		t.Fatalf("Next(%d, %d, %d, %d): %v, %t; asked for: %v, %t", from, to, cells, who, at, ok, want, is)
	}
	used, held := b.p.counts(from, to)
	if got := b.m.Used(from, to); got != used {
		t.Fatalf("Used(%d, %d): %d; asked for: %d", from, to, got, used)
	}
	if got := b.m.Held(from, to); got != held {
		t.Fatalf("Held(%d, %d): %d; asked for: %d", from, to, got, held)
	}
	return ok
}

// wantSameAll asks both everything that there is to ask of so many pages.
func (b both) wantSameAll(t *testing.T, pages int, whos ...int) {
	t.Helper()
	for from := -1; from <= pages+1; from++ {
		for to := -1; to <= pages+1; to++ {
			for cells := -1; cells <= api.Cells+1; cells++ {
				for _, who := range whos {
					b.wantSame(t, from, to, cells, who)
				}
			}
		}
	}
}

// TestEveryShortRun goes through all runs of five steps on two cells of different pages, and asks everything behind each.
func TestEveryShortRun(t *testing.T) {
	const length = 5
	cells := []api.RID{rid(0, 1), rid(1, 0)}
	steps := []func(b both){func(b both) { b.free(0) }, func(b both) { b.free(1) }}
	for _, at := range cells {
		steps = append(steps,
			func(b both) { b.use(t, at, true) },
			func(b both) { b.use(t, at, false) },
			func(b both) { b.hold(t, 0, at) },
			func(b both) { b.hold(t, 1, at) })
	}
	runs := 1
	for range length {
		runs *= len(steps)
	}
	for run := range runs {
		b := newBoth(2)
		rest := run
		for range length {
			steps[rest%len(steps)](b)
			rest /= len(steps)
		}
		for who := range 3 {
			b.wantSame(t, 0, 2, 1, who)
			b.wantSame(t, 0, 1, 2, who)
			b.wantSame(t, 1, 2, 2, who)
		}
	}
}

// TestEveryState asks everything of each state of the four cells of a page: free, used, held by 1, held by 2, used and held.
func TestEveryState(t *testing.T) {
	const states = 6
	for n := range states * states * states * states {
		b := newBoth(1)
		rest := n
		for c := range api.Cells {
			at := rid(0, c)
			if rest%states >= 3 {
				b.use(t, at, true)
			}
			if who := rest % 3; who > 0 {
				b.hold(t, who, at)
			}
			rest /= states
		}
		b.wantSameAll(t, 1, 0, 1, 2)
	}
}

// TestLongRuns goes through many mixed steps, in an order that is always the same, on maps of different sizes.
func TestLongRuns(t *testing.T) {
	seed := uint32(15)
	next := func(n int) int {
		seed = seed*1664525 + 1013904223
		return int(seed>>16) % n
	}
	bounds := []int{math.MinInt, math.MinInt + 1, -1 << 32, 1 << 32, math.MaxInt - 1, math.MaxInt}
	bound := func(n int) int { // from 1 below to 2 above of what there is; seldom far from it
		if next(8) == 0 {
			return bounds[next(len(bounds))]
		}
		return next(n+4) - 1
	}
	for _, pages := range []int{1, 2, 3, 7, api.MaxPages / 2, api.MaxPages} {
		b := newBoth(pages)
		are, none := 0, 0
		for range 6000 {
			at := rid(bound(pages), bound(api.Cells))
			who := people[next(len(people))]
			switch kind := next(64); {
			case kind < 18:
				b.use(t, at, true)
			case kind < 34:
				b.use(t, at, false)
			case kind < 54:
				b.hold(t, who, at)
			default:
				b.free(who)
			}
			if b.wantSame(t, bound(pages), bound(pages), bound(api.Cells), people[next(len(people))]) {
				are++
			} else {
				none++
			}
		}
		if are < 400 || none < 400 {
			t.Errorf("of %d pages: %d answers with a cell, and %d without one", pages, are, none)
		}
		b.wantSameAll(t, pages, 0, -1)
	}
}

// TestOneOfManyWhoHold frees one after the other of many people, each with cells of its own.
func TestOneOfManyWhoHold(t *testing.T) {
	b := newBoth(api.MaxPages)
	for i, at := range every(api.MaxPages) {
		b.hold(t, i%50-25, at)
	}
	for who := -26; who <= 25; who++ {
		b.wantSameAll(t, 3, who, who+1)
		b.free(who)
		b.wantSame(t, 0, api.MaxPages, api.Cells, nobody)
	}
}
