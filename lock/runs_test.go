package lock_test

import (
	"math"
	"slices"
	"testing"

	"whim/lock"
)

// plain is a lock table that is a list of what is held.
type plain struct{ all []lone }

func (p *plain) at(who int, what string) int {
	return slices.IndexFunc(p.all, func(l lone) bool { return l.who == who && l.what == what })
}

func (p *plain) held(who int, what string) int {
	if i := p.at(who, what); i >= 0 {
		return p.all[i].mode
	}
	return none
}

func (p *plain) ask(who int, what string, mode int) (others []int, ok bool) {
	if mode <= none || mode > x {
		return nil, false
	}
	m := least[p.held(who, what)][mode]
	for _, l := range p.all {
		if l.what == what && l.who != who && !together[l.mode][m] {
			others = append(others, l.who)
		}
	}
	slices.Sort(others)
	if len(others) > 0 {
		return others, false
	}
	p.free(func(l lone) bool { return l.who == who && l.what == what })
	p.all = append(p.all, lone{who, what, m})
	return nil, true
}

func (p *plain) free(which func(lone) bool) {
	p.all = slices.DeleteFunc(p.all, which)
}

// wantTogether holds that the modes of two who hold the same thing go together, as far as the table tells itself who they are.
func wantTogether(t *testing.T, y *lock.Table, what string) {
	t.Helper()
	who := y.Holders(what)
	for i, a := range who {
		for _, b := range who[i+1:] {
			if m, n := y.Held(a, what), y.Held(b, what); !together[m][n] || m == none || n == none {
				t.Fatalf("%d and %d hold %d and %d on %q", a, b, m, n, what)
			}
		}
	}
}

// TestLongRuns goes through many mixed steps, in an order that is always the same.
func TestLongRuns(t *testing.T) {
	seed := uint32(12)
	next := func(n int) int {
		seed = seed*1664525 + 1013904223
		return int(seed>>16) % n
	}
	who := []int{3, -1, 0, math.MaxInt, 1, -256, math.MinInt, 10, 2}
	what := []string{"b", "", "\xff", "a", "\x00", "a\x00"}
	seen := map[[2]int]int{} // how often that many were in the way of a mode
	granted := map[int]int{}
	for _, people := range []int{2, 4, 9} {
		for _, things := range []int{1, 3, 6} {
			y, p := lock.New(), &plain{}
			for range 1500 {
				one, thing := who[next(people)], what[next(things)]
				if next(8) == 0 {
					y.Free(one)
					p.free(func(l lone) bool { return l.who == one })
				} else {
					// The lesser modes come up more often, so that many hold the same thing.
					m := min(next(7), next(7)) - 1
					others, ok := y.Ask(one, thing, m)
					asked, is := p.ask(one, thing, m)
					if !slices.Equal(others, asked) || ok != is {
						t.Fatalf("Ask(%d, %q, %d): %d, %t; asked for: %d, %t", one, thing, m, others, ok, asked, is)
					}
					seen[[2]int{m, len(others)}]++
					if ok {
						granted[m]++
					}
				}
				wantTogether(t, y, thing)
				wantAll(t, y, p.all...)
			}
		}
	}
	for _, m := range modes {
		if granted[m] < 50 {
			t.Errorf("mode %d was granted %d times", m, granted[m])
		}
		for n := 1; n <= 3; n++ {
			if seen[[2]int{m, n}] < 10 && (m == s || m == x) {
				t.Errorf("%d were in the way of mode %d %d times", n, m, seen[[2]int{m, n}])
			}
		}
	}
}
