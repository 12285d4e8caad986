package wait

import "testing"

// wantSizes holds that a graph keeps those who wait, that many of them, and for whom they do, that many in all, and nothing else.
func wantSizes(t *testing.T, g *Graph, who, edges int) {
	t.Helper()
	all := 0
	for one, l := range g.on {
		if _, itself := l[one]; itself || len(l) == 0 {
			t.Errorf("%d is kept, and waits for %v", one, l)
		}
		all += len(l)
	}
	if len(g.on) != who || all != edges {
		t.Errorf("%d who wait, for %d in all; asked for: %d, %d", len(g.on), all, who, edges)
	}
}

func TestGraphKeepsOnlyWhoWaits(t *testing.T) {
	g := New()
	wantSizes(t, g, 0, 0)
	g.Set(1, 2, 3, 2, 1)
	g.Set(2, 3)
	g.Set(4, 4, 5)
	wantSizes(t, g, 3, 4)
	// What waits for nobody, or is only looked at, leaves nothing.
	g.Set(6)
	g.Set(7, 7, 7)
	g.Clear(8)
	g.Gone(9)
	g.On(10)
	g.Cycle(11)
	g.Cycle(1)
	wantSizes(t, g, 3, 4)
	g.Set(4, 4)
	wantSizes(t, g, 2, 3)
	g.Set(1, 3)
	wantSizes(t, g, 2, 2)
	g.Set(5, 1)
	g.Clear(1)
	wantSizes(t, g, 2, 2)
	g.Set(1, 3, 2)
	wantSizes(t, g, 3, 4)
	g.Gone(3)
	wantSizes(t, g, 2, 2)
	g.Gone(1)
	wantSizes(t, g, 0, 0)
}
