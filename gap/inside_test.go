package gap

import (
	"testing"

	"whim/api"
)

// wantKept holds that a map keeps so many cells that are used, and so many that are held, and no others.
func wantKept(t *testing.T, m *Map, used, held int) {
	t.Helper()
	if len(m.used) != used || len(m.held) != held {
		t.Errorf("kept: %v, %v; asked for: %d used, and %d held", m.used, m.held, used, held)
	}
}

func TestMapKeepsNothingElse(t *testing.T) {
	m := New(2)
	wantKept(t, m, 0, 0)
	at, other := api.RID{Page: 1, Cell: 3}, api.RID{Cell: 1}
	m.Use(at, false)
	m.Free(1)
	m.Next(0, 2, api.Cells, 1)
	m.Used(-1, 9)
	m.Held(-1, 9)
	wantKept(t, m, 0, 0)
	for _, outside := range []api.RID{{Page: -1}, {Page: 2}, {Cell: -1}, {Cell: api.Cells}} {
		m.Use(outside, true)
		m.Use(outside, false)
		m.Hold(1, outside)
	}
	wantKept(t, m, 0, 0)
	m.Use(at, true)
	m.Use(at, true)
	m.Hold(1, at)
	m.Hold(1, at)
	m.Hold(2, at)
	m.Hold(2, other)
	wantKept(t, m, 1, 2)
	m.Use(at, false)
	wantKept(t, m, 0, 2)
	m.Free(1)
	wantKept(t, m, 0, 1)
	m.Free(2)
	wantKept(t, m, 0, 0)
}

func TestMapOfNoPagesKeepsNothing(t *testing.T) {
	for _, m := range []*Map{New(-1), New(0), {}} {
		for page := -1; page < 3; page++ {
			at := api.RID{Page: page}
			m.Use(at, true)
			m.Hold(1, at)
		}
		wantKept(t, m, 0, 0)
		if m.pages != 0 {
			t.Errorf("%d pages", m.pages)
		}
	}
}
