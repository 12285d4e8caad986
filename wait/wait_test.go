package wait_test

import (
	"math"
	"slices"
	"testing"

	"whim/wait"
)

// The face, as the chapter lists it.
var (
	_ func() *wait.Graph                          = wait.New
	_ func(g *wait.Graph, who int, on ...int)     = (*wait.Graph).Set
	_ func(g *wait.Graph, who int)                = (*wait.Graph).Clear
	_ func(g *wait.Graph, who int)                = (*wait.Graph).Gone
	_ func(g *wait.Graph, who int) (others []int) = (*wait.Graph).On
	_ func(g *wait.Graph, who int) (cycle bool)   = (*wait.Graph).Cycle
)

// people are some who may wait.
var people = []int{math.MinInt, math.MinInt + 1, -256, -10, -9, -3, -2, -1, 0, 1, 2, 3, 4, 5, 6, 7, 8, 9, 10, 256, 1 << 32, math.MaxInt - 1, math.MaxInt}

// edges are for whom each one waits.
type edges map[int][]int

// given returns a graph in which these wait.
func given(all edges) *wait.Graph {
	g := wait.New()
	for who, on := range all {
		g.Set(who, on...)
	}
	return g
}

func wantOn(t *testing.T, g *wait.Graph, who int, on ...int) {
	t.Helper()
	if got := g.On(who); !slices.Equal(got, on) {
		t.Errorf("On(%d): %d; asked for: %d", who, got, on)
	}
}

// wantAll holds that these wait, each one's list in ascending order, and nobody else, as far as they are of people.
func wantAll(t *testing.T, g *wait.Graph, all edges) {
	t.Helper()
	for who, on := range all {
		wantOn(t, g, who, on...)
	}
	for _, who := range people {
		wantOn(t, g, who, all[who]...)
	}
}

// wantCycles holds that these are on a cycle, and nobody else, as far as they are of people; and that asking changes nothing.
func wantCycles(t *testing.T, g *wait.Graph, who ...int) {
	t.Helper()
	for range 2 {
		for _, one := range append(slices.Clone(who), people...) {
			if got, is := g.Cycle(one), slices.Contains(who, one); got != is {
				t.Errorf("Cycle(%d): %t; asked for: %t", one, got, is)
			}
		}
	}
}

// P13.1: the example, and a new graph

func TestExample(t *testing.T) {
	g := wait.New()
	g.Set(1, 2, 3)
	g.Set(2, 4)
	g.Set(4, 5, 1)
	wantCycles(t, g, 1, 2, 4)
	wantAll(t, g, edges{1: {2, 3}, 2: {4}, 4: {1, 5}})
}

func TestNewHasNothing(t *testing.T) {
	g := wait.New()
	wantAll(t, g, nil)
	wantCycles(t, g)
}

// P13.1 Set and On

func TestSet(t *testing.T) {
	for _, l := range []struct {
		who      int
		on, want []int
	}{
		{who: 1},
		{1, []int{}, nil},
		{1, []int{2}, []int{2}},
		{1, []int{0}, []int{0}},
		{0, []int{1}, []int{1}},
		{1, []int{2, 3}, []int{2, 3}},
		{1, []int{3, 2}, []int{2, 3}},
		{2, []int{3, 1}, []int{1, 3}},
		{1, []int{9, 10, 2}, []int{2, 9, 10}},
		// The same one several times.
		{1, []int{2, 2}, []int{2}},
		{1, []int{2, 2, 2, 2}, []int{2}},
		{1, []int{3, 2, 3}, []int{2, 3}},
		{1, []int{2, 3, 3, 2, 4, 2}, []int{2, 3, 4}},
		// Who itself among them, and alone.
		{1, []int{1}, nil},
		{1, []int{1, 1}, nil},
		{0, []int{0}, nil},
		{math.MinInt, []int{math.MinInt}, nil},
		{math.MaxInt, []int{math.MaxInt, math.MaxInt}, nil},
		{1, []int{1, 2}, []int{2}},
		{1, []int{2, 1}, []int{2}},
		{1, []int{1, 1, 2, 1, 0, 1, 2, 1}, []int{0, 2}},
		{0, []int{-1, 0, 1}, []int{-1, 1}},
		// Negative numbers, and the farthest ones.
		{1, []int{-1}, []int{-1}},
		{-1, []int{1}, []int{1}},
		{-1, []int{-1}, nil},
		{-2, []int{-1, -2, -3, 3, 2, 1, 0}, []int{-3, -1, 0, 1, 2, 3}},
		{0, []int{-1, -10, -9, -256}, []int{-256, -10, -9, -1}},
		{1, []int{math.MaxInt, math.MinInt}, []int{math.MinInt, math.MaxInt}},
		{math.MinInt, []int{math.MaxInt, math.MinInt, 0, -1}, []int{-1, 0, math.MaxInt}},
		{math.MaxInt, []int{math.MaxInt - 1, 0, math.MinInt + 1, math.MinInt, math.MaxInt}, []int{math.MinInt, math.MinInt + 1, 0, math.MaxInt - 1}},
		{1, []int{1 << 32, 0, 1<<32 + 1, 1}, []int{0, 1 << 32, 1<<32 + 1}},
	} {
		g := wait.New()
		g.Set(l.who, l.on...)
		wantAll(t, g, edges{l.who: l.want})
		wantCycles(t, g)
	}
}

func TestSetOfEveryTwo(t *testing.T) {
	for _, who := range people {
		for _, other := range people {
			g := wait.New()
			g.Set(who, other)
			if who == other {
				wantAll(t, g, nil)
			} else {
				wantAll(t, g, edges{who: {other}})
			}
			wantCycles(t, g)
		}
	}
}

func TestSetAnew(t *testing.T) {
	g := given(edges{2: {1, 3}, 3: {4}})
	others := edges{2: {1, 3}, 3: {4}}
	for _, l := range []struct{ on, want []int }{
		{[]int{2, 3}, []int{2, 3}},
		{[]int{4}, []int{4}},                     // others than before
		{[]int{4}, []int{4}},                     // the same as before
		{[]int{5, 4}, []int{4, 5}},               // one more
		{[]int{5}, []int{5}},                     // one less
		{[]int{6, 5, 1, 5}, []int{5, 6}},         // itself, which it leaves out again
		{[]int{1}, nil},                          // itself alone
		{[]int{math.MinInt}, []int{math.MinInt}}, // some again
		{nil, nil},                               // nobody
		{nil, nil},                               // nobody again
		{[]int{3, -1, 2, -1}, []int{-1, 2, 3}},   // some again
	} {
		g.Set(1, l.on...)
		others[1] = l.want
		wantAll(t, g, others)
	}
}

func TestSetAnewChangesNobodyElse(t *testing.T) {
	g := given(edges{1: {2, 3}, 2: {1, 3}, 3: {1, 2}, 4: {1, 2, 3}})
	g.Set(1, 4)
	wantAll(t, g, edges{1: {4}, 2: {1, 3}, 3: {1, 2}, 4: {1, 2, 3}})
	g.Set(2)
	wantAll(t, g, edges{1: {4}, 3: {1, 2}, 4: {1, 2, 3}})
	g.Set(3, 3)
	wantAll(t, g, edges{1: {4}, 4: {1, 2, 3}})
	g.Set(2, 1)
	wantAll(t, g, edges{1: {4}, 2: {1}, 4: {1, 2, 3}})
}

func TestManyAreInAscendingOrder(t *testing.T) {
	const n, half = 1009, 504
	var on, want []int
	for i := range n {
		on = append(on, i*331%n-half, i*7%n-half)
		if who := i - half; who != 5 {
			want = append(want, who)
		}
	}
	g := wait.New()
	g.Set(5, on...)
	for range 3 {
		wantOn(t, g, 5, want...)
	}
}

func TestWhoWaitsForTheSameOnes(t *testing.T) {
	g := wait.New()
	all := edges{}
	for _, who := range people {
		g.Set(who, people...)
		all[who] = slices.DeleteFunc(slices.Clone(people), func(one int) bool { return one == who })
	}
	wantAll(t, g, all)
	wantCycles(t, g, people...)
}

// P13.1 Clear and Gone

// waiting is a graph of some who only wait (1, -2), some for whom others only wait (4, 5), and some of whom both holds.
func waiting() *wait.Graph {
	return given(edges{1: {2, 3, 4}, 2: {3}, 3: {2, 4, 5}, -2: {math.MaxInt, 3}, math.MaxInt: {2, math.MinInt}, math.MinInt: {3, math.MaxInt}})
}

func TestClear(t *testing.T) {
	all := func() edges {
		return edges{1: {2, 3, 4}, 2: {3}, 3: {2, 4, 5}, -2: {3, math.MaxInt}, math.MaxInt: {math.MinInt, 2}, math.MinInt: {3, math.MaxInt}}
	}
	wantAll(t, waiting(), all())
	for _, who := range people { // of each kind, and of neither: 0, 6, -1
		g, want := waiting(), all()
		delete(want, who)
		for range 2 {
			g.Clear(who)
			wantAll(t, g, want)
		}
		// Others may wait for who again, and who for them.
		g.Set(0, who)
		g.Set(who, 7)
		want[0] = []int{who}
		want[who] = []int{7}
		if who == 0 {
			want[0] = []int{7}
		} else if who == 7 {
			delete(want, 7)
		}
		wantAll(t, g, want)
	}
}

func TestGone(t *testing.T) {
	for who, want := range map[int]edges{
		// Who waits.
		1:  {2: {3}, 3: {2, 4, 5}, -2: {3, math.MaxInt}, math.MaxInt: {math.MinInt, 2}, math.MinInt: {3, math.MaxInt}},
		-2: {1: {2, 3, 4}, 2: {3}, 3: {2, 4, 5}, math.MaxInt: {math.MinInt, 2}, math.MinInt: {3, math.MaxInt}},
		// Of whom others wait for: two, and one.
		4: {1: {2, 3}, 2: {3}, 3: {2, 5}, -2: {3, math.MaxInt}, math.MaxInt: {math.MinInt, 2}, math.MinInt: {3, math.MaxInt}},
		5: {1: {2, 3, 4}, 2: {3}, 3: {2, 4}, -2: {3, math.MaxInt}, math.MaxInt: {math.MinInt, 2}, math.MinInt: {3, math.MaxInt}},
		// Both. Of those who waited for nobody else, 2 is one.
		2:           {1: {3, 4}, 3: {4, 5}, -2: {3, math.MaxInt}, math.MaxInt: {math.MinInt}, math.MinInt: {3, math.MaxInt}},
		3:           {1: {2, 4}, -2: {math.MaxInt}, math.MaxInt: {math.MinInt, 2}, math.MinInt: {math.MaxInt}},
		math.MaxInt: {1: {2, 3, 4}, 2: {3}, 3: {2, 4, 5}, -2: {3}, math.MinInt: {3}},
		math.MinInt: {1: {2, 3, 4}, 2: {3}, 3: {2, 4, 5}, -2: {3, math.MaxInt}, math.MaxInt: {2}},
		// Neither.
		0: {1: {2, 3, 4}, 2: {3}, 3: {2, 4, 5}, -2: {3, math.MaxInt}, math.MaxInt: {math.MinInt, 2}, math.MinInt: {3, math.MaxInt}},
		6: {1: {2, 3, 4}, 2: {3}, 3: {2, 4, 5}, -2: {3, math.MaxInt}, math.MaxInt: {math.MinInt, 2}, math.MinInt: {3, math.MaxInt}},
	} {
		g := waiting()
		for range 2 {
			g.Gone(who)
			wantAll(t, g, want)
		}
		// Others may wait for who again, and who for them.
		g.Set(8, who)
		g.Set(who, 9)
		want[8], want[who] = []int{who}, []int{9}
		wantAll(t, g, want)
	}
}

func TestGoneOfAll(t *testing.T) {
	g := waiting()
	for _, who := range []int{4, 3, 1, math.MinInt, -2} {
		g.Gone(who)
	}
	wantAll(t, g, edges{math.MaxInt: {2}})
	g.Gone(2)
	wantAll(t, g, nil)
	g.Gone(math.MaxInt)
	wantAll(t, g, nil)
	wantCycles(t, g)
}

func TestGoneOfWhomManyWaitFor(t *testing.T) {
	const n = 1000
	g := wait.New()
	for i := range n {
		g.Set(i, n, n+1+i%2) // the ones of even numbers wait for n+1, the others for n+2
	}
	g.Gone(n + 1)
	for i := range n {
		if i%2 == 0 {
			wantOn(t, g, i, n)
		} else {
			wantOn(t, g, i, n, n+2)
		}
	}
	g.Gone(n)
	for i := range n {
		if i%2 == 0 {
			wantOn(t, g, i)
		} else {
			wantOn(t, g, i, n+2)
		}
	}
}

func TestClearAndGoneOfANewGraph(t *testing.T) {
	g := wait.New()
	for _, who := range people {
		g.Clear(who)
		g.Gone(who)
	}
	wantAll(t, g, nil)
	g.Set(1, 2)
	wantAll(t, g, edges{1: {2}})
}

// P13.1 Cycle

func TestRingOfOneThereIsNot(t *testing.T) {
	g := wait.New()
	for _, who := range people {
		g.Set(who, who)
	}
	wantCycles(t, g)
	// Nor in a row.
	g.Set(1, 1, 2)
	g.Set(2, 3, 2, 2)
	g.Set(3, 3)
	wantCycles(t, g)
}

func TestRings(t *testing.T) {
	for _, n := range []int{2, 3, 4, 7, len(people)} {
		for from := range people {
			ring := append(slices.Clone(people[from:]), people[:from]...)[:n]
			g := wait.New()
			for i, who := range ring[1:] {
				g.Set(ring[i], who)
				wantCycles(t, g)
			}
			// Before and after the edge that closes it, and before and after each one that breaks it.
			g.Set(ring[n-1], ring[0])
			wantCycles(t, g, ring...)
			for i, who := range ring {
				g.Clear(who)
				wantCycles(t, g)
				g.Set(who, ring[(i+1)%n])
				wantCycles(t, g, ring...)
			}
			g.Gone(ring[n/2])
			wantCycles(t, g)
		}
	}
}

func TestRows(t *testing.T) {
	g := given(edges{1: {2}, 2: {3}, 3: {4}, 4: {5}})
	wantCycles(t, g)
	// Ways that part and meet again are no cycles.
	g = given(edges{1: {2, 3}, 2: {4}, 3: {4}, 4: {5, 6}, 5: {6}})
	wantCycles(t, g)
	g = given(edges{1: {2, 3, 4}, 2: {3, 4}, 3: {4}})
	wantCycles(t, g)
	// Somebody for whom all others wait, and who waits for nobody.
	g = wait.New()
	for _, who := range people {
		g.Set(who, 3)
	}
	wantCycles(t, g)
	// Somebody who waits for all others, who wait for nobody.
	g = wait.New()
	g.Set(3, people...)
	wantCycles(t, g)
}

func TestRingsThatHangOnARow(t *testing.T) {
	// 1 and 2 lead into the ring, 6 and 7 out of it; 8 and 9 are elsewhere.
	g := given(edges{1: {2}, 2: {3}, 3: {4}, 4: {5, 6}, 5: {3}, 6: {7}, 8: {9}})
	wantCycles(t, g, 3, 4, 5)
	// Who leads into it at several places isn't on it either.
	g.Set(2, 3, 4, 5)
	g.Set(1, 2, 5, 7)
	wantCycles(t, g, 3, 4, 5)
	g.Set(7, 3) // the way out leads back
	wantCycles(t, g, 3, 4, 5, 6, 7)
	g.Set(7, 2)
	wantCycles(t, g, 2, 3, 4, 5, 6, 7)
	g.Set(7, 1)
	wantCycles(t, g, 1, 2, 3, 4, 5, 6, 7)
	g.Set(2)
	wantCycles(t, g, 1, 3, 4, 5, 6, 7) // 1 waits for 5, too
	g.Gone(5)
	wantCycles(t, g, 1, 7)
	g.Set(7, 4)
	wantCycles(t, g, 4, 6, 7)
}

func TestTwoRingsThatShareSomebody(t *testing.T) {
	g := given(edges{1: {2}, 2: {3}, 3: {1, 4}, 4: {5}, 5: {3}})
	wantCycles(t, g, 1, 2, 3, 4, 5)
	g.Clear(2) // breaks the first ring
	wantCycles(t, g, 3, 4, 5)
	g.Set(2, 3)
	wantCycles(t, g, 1, 2, 3, 4, 5)
	g.Clear(5) // breaks the second one
	wantCycles(t, g, 1, 2, 3)
	g.Set(3, 1)
	g.Set(5, 3)
	wantCycles(t, g, 1, 2, 3)
	g.Set(3, 4)
	wantCycles(t, g, 3, 4, 5)
	g.Set(3, 4, 1)
	wantCycles(t, g, 1, 2, 3, 4, 5)
	g.Gone(3) // breaks both
	wantCycles(t, g)
	wantAll(t, g, edges{1: {2}, 4: {5}})
}

func TestRingsApartAndOneBehindTheOther(t *testing.T) {
	g := given(edges{1: {2}, 2: {1}, 3: {4}, 4: {3}})
	wantCycles(t, g, 1, 2, 3, 4)
	g.Set(2, 1, 3) // the first leads into the second
	wantCycles(t, g, 1, 2, 3, 4)
	g.Set(1)
	wantCycles(t, g, 3, 4)
	g.Set(1, 2)
	g.Set(4)
	wantCycles(t, g, 1, 2)
	g.Set(4, 1) // only all of them are a ring now
	g.Set(2, 3)
	wantCycles(t, g, 1, 2, 3, 4)
	g.Gone(3)
	wantCycles(t, g)
}

// Whoever is asked for, and whatever way is taken first, the one that leads back is found.
func TestCycleOnOneOfManyWays(t *testing.T) {
	const n = 50
	for back := 1; back <= n; back++ {
		g := wait.New()
		var on []int
		for i := 1; i <= n; i++ {
			on = append(on, i)
			g.Set(i, n+1) // a way that ends
		}
		g.Set(0, on...)
		if g.Cycle(0) {
			t.Errorf("Cycle(0): true ahead of the edge from %d", back)
		}
		g.Set(back, n+1, 0)
		for i := range n + 2 {
			if got := g.Cycle(i); got != (i == 0 || i == back) {
				t.Errorf("Cycle(%d): %t, with the edge from %d", i, got, back)
			}
		}
	}
}

// Layers of which each one waits for all of the next layer have more ways than could be gone.
func TestManyThatWaitForMany(t *testing.T) {
	const layers, wide = 60, 20
	g := wait.New()
	layer := func(k int) []int {
		var l []int
		for i := range wide {
			l = append(l, k*wide+i)
		}
		return l
	}
	for k := range layers {
		for _, who := range layer(k) {
			g.Set(who, layer(k+1)...)
		}
	}
	want := func(all bool) {
		t.Helper()
		for who := 0; who < (layers+1)*wide; who += 7 {
			onIt := all && (who < layers*wide || who == layers*wide)
			if got := g.Cycle(who); got != onIt {
				t.Errorf("Cycle(%d): %t; asked for: %t", who, got, onIt)
			}
		}
	}
	want(false)
	g.Set(layers*wide, layer(0)...) // one of the last layer waits for all of the first
	want(true)
	if !g.Cycle(layers * wide) {
		t.Errorf("Cycle of who closes the ring: false")
	}
	g.Clear(layers * wide)
	want(false)
}

func TestAllThatWaitForAll(t *testing.T) {
	const n = 300
	var all []int
	for i := range n {
		all = append(all, i)
	}
	g := wait.New()
	for _, who := range all {
		g.Set(who, all...)
	}
	g.Set(n, all...)
	for _, who := range all {
		if !g.Cycle(who) || len(g.On(who)) != n-1 {
			t.Errorf("Cycle(%d): false; or On: %d", who, g.On(who))
		}
	}
	if g.Cycle(n) || len(g.On(n)) != n {
		t.Errorf("Cycle(%d): true; or On: %d", n, g.On(n))
	}
}

func TestLongRowAndRing(t *testing.T) {
	const n = 1 << 17
	g := wait.New()
	for i := range n {
		g.Set(i, i+1)
	}
	for _, who := range []int{0, n / 2, n} {
		if g.Cycle(who) {
			t.Errorf("Cycle(%d): true in a row", who)
		}
	}
	g.Set(n, 1)
	for _, who := range []int{0, 1, n / 2, n} {
		if got := g.Cycle(who); got != (who > 0) {
			t.Errorf("Cycle(%d): %t in a ring behind 0", who, got)
		}
	}
}

// A nil graph, and others

func TestNilGraph(t *testing.T) {
	var g *wait.Graph
	for _, who := range people {
		g.Set(who)
		g.Set(who, who)
		g.Set(who, 1, 2)
		g.Set(1, who)
		wantAll(t, g, nil)
		wantCycles(t, g)
		g.Clear(who)
		g.Gone(who)
		wantAll(t, g, nil)
		wantCycles(t, g)
	}
	if g.On(1) != nil {
		t.Errorf("On(1): %d, and not nil", g.On(1))
	}
}

func TestGraphsThatNewDidNotMake(t *testing.T) {
	var g wait.Graph
	for _, who := range people {
		g.Gone(who)
	}
	wantAll(t, &g, nil)
	wantCycles(t, &g)
	g.Set(1, 2)
	g.Set(2, 1)
	wantAll(t, &g, edges{1: {2}, 2: {1}})
	wantCycles(t, &g, 1, 2)
	var h wait.Graph
	h.Clear(1)
	wantAll(t, &h, nil)
	h.Set(1)
	wantAll(t, &h, nil)
}

func TestCopyOfAGraphIsTheSameGraph(t *testing.T) {
	g := wait.New()
	h := *g
	g.Set(1, 2)
	h.Set(2, 1)
	wantCycles(t, g, 1, 2)
	wantCycles(t, &h, 1, 2)
	g.Gone(1)
	wantAll(t, &h, nil)
}

func TestGraphsAreApart(t *testing.T) {
	g, h := wait.New(), wait.New()
	g.Set(1, 2)
	h.Set(2, 1)
	wantAll(t, g, edges{1: {2}})
	wantAll(t, h, edges{2: {1}})
	wantCycles(t, g)
	wantCycles(t, h)
	g.Gone(2)
	h.Clear(1)
	wantAll(t, g, nil)
	wantAll(t, h, edges{2: {1}})
}

// R3

// spoil changes all of a list, and what is behind its end.
func spoil(l []int) {
	l = l[:cap(l)]
	for i := range l {
		l[i] = 77
	}
}

func TestListsAreTheCallersOwn(t *testing.T) {
	all := edges{1: {2, 3, 4}, 2: {3}}
	g := given(all)
	one, two := g.On(1), g.On(1)
	spoil(one)
	spoil(g.On(2))
	if !slices.Equal(two, []int{2, 3, 4}) {
		t.Errorf("a list changed with another one: %d", two)
	}
	wantAll(t, g, all)
	wantOn(t, g, 77)
	// What was handed out does not follow the graph.
	g.Set(1, 5)
	g.Gone(3)
	if !slices.Equal(two, []int{2, 3, 4}) {
		t.Errorf("a list changed with the graph: %d", two)
	}
	wantAll(t, g, edges{1: {5}})
}

func TestWhatIsHandedInIsNeitherChangedNorKept(t *testing.T) {
	whole := []int{5, 3, 1, 3, 2, 9, 8, 7}
	before := slices.Clone(whole)
	g := wait.New()
	g.Set(1, whole[:5]...)
	wantAll(t, g, edges{1: {2, 3, 5}})
	g.Set(1, whole[:5]...)
	g.Set(2, whole[:5]...)
	want := edges{1: {2, 3, 5}, 2: {1, 3, 5}}
	wantAll(t, g, want)
	if !slices.Equal(whole, before) {
		t.Errorf("Set changes what it is given to %d", whole)
	}
	spoil(whole)
	wantAll(t, g, want)
	before = slices.Clone(whole)
	g.Gone(3)
	g.Clear(1)
	g.Set(2, 4, 6)
	if !slices.Equal(whole, before) {
		t.Errorf("what was given to Set is changed later, to %d", whole)
	}
	// Of the list that is handed out and in again, too.
	l := g.On(2)
	g.Set(3, l...)
	spoil(l)
	wantAll(t, g, edges{2: {4, 6}, 3: {4, 6}})
}
