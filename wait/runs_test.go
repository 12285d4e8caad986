package wait_test

import (
	"math"
	"slices"
	"testing"

	"whim/wait"
)

// plain is a wait-for graph of some people that has a place for every two of them.
type plain struct {
	people []int // in ascending order
	on     [][]bool
}

func newPlain(people []int) *plain {
	p := &plain{people: people}
	for range people {
		p.on = append(p.on, make([]bool, len(people)))
	}
	return p
}

func (p *plain) set(a int, on []int) {
	for b, who := range p.people {
		p.on[a][b] = b != a && slices.Contains(on, who)
	}
}

func (p *plain) gone(a int) {
	p.set(a, nil)
	for b := range p.people {
		p.on[b][a] = false
	}
}

// reached tells from whom whom is reached, by ways over the first ones only, over one more, and so on.
func (p *plain) reached() [][]bool {
	var r [][]bool
	for _, l := range p.on {
		r = append(r, slices.Clone(l))
	}
	for over := range r {
		for a := range r {
			for b := range r {
				r[a][b] = r[a][b] || r[a][over] && r[over][b]
			}
		}
	}
	return r
}

// wantSame holds that a graph tells the same as the plain one, and returns how many are on a cycle.
func wantSame(t *testing.T, g *wait.Graph, p *plain) int {
	t.Helper()
	n := 0
	r := p.reached()
	for a, who := range p.people {
		var on []int
		for b, other := range p.people {
			if p.on[a][b] {
				on = append(on, other)
			}
		}
		if got := g.On(who); !slices.Equal(got, on) {
			t.Fatalf("On(%d): %d; asked for: %d", who, got, on)
		}
		cycle := g.Cycle(who)
		if cycle != r[a][a] {
			t.Fatalf("Cycle(%d): %t; asked for: %t, where %v", who, cycle, r[a][a], p.on)
		}
		if cycle && len(on) == 0 {
			t.Fatalf("%d waits for nobody, and is on a cycle", who)
		}
		if cycle {
			n++
		}
	}
	return n
}

// TestEveryGraphOfFour makes every graph of four people, each from the one ahead of it.
func TestEveryGraphOfFour(t *testing.T) {
	who := []int{-1, 0, 1, 2}
	g, p := wait.New(), newPlain(who)
	seen := map[int]int{} // of how many graphs that many are on a cycle
	for graph := range 1 << 16 {
		for a := range who {
			var on []int
			for b := range who {
				if graph>>(4*a+b)&1 == 1 {
					on = append(on, who[b])
				}
			}
			g.Set(who[a], on...)
			p.set(a, on)
		}
		seen[wantSame(t, g, p)]++
	}
	// There are 543 graphs of four that have no cycle, and each comes up with every choice of the four edges that are left out.
	if seen[0] != 543*16 || seen[1] != 0 {
		t.Errorf("of so many graphs so many are on a cycle: %v", seen)
	}
}

// TestLongRuns goes through many mixed steps, in an order that is always the same.
func TestLongRuns(t *testing.T) {
	seed := uint32(13)
	next := func(n int) int {
		seed = seed*1664525 + 1013904223
		return int(seed>>16) % n
	}
	all := []int{math.MinInt, -256, -10, -1, 0, 1, 2, 3, 9, 10, 256, math.MaxInt}
	for _, n := range []int{2, 3, 5, 8, 12} {
		g, p := wait.New(), newPlain(all[len(all)-n:])
		seen := map[int]int{} // how often that many were on a cycle
		for range 3000 {
			a := next(n)
			who := p.people[a]
			switch next(8) {
			case 0:
				g.Clear(who)
				p.set(a, nil)
			case 1:
				g.Gone(who)
				p.gone(a)
			default:
				var on []int
				for range next(4) {
					on = append(on, p.people[next(n)])
				}
				g.Set(who, on...)
				p.set(a, on)
			}
			seen[wantSame(t, g, p)]++
		}
		for on := range n + 1 {
			if on != 1 && on <= 5 && seen[on] < 10 || on == 1 && seen[on] > 0 {
				t.Errorf("of %d people, %d were on a cycle %d times", n, on, seen[on])
			}
		}
	}
}
