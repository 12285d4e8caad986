package lock

import (
	"testing"

	"whim/api"
)

// wantSizes holds that a table keeps that many names which are held, and that many who hold them.
func wantSizes(t *testing.T, y *Table, names, people int) {
	t.Helper()
	if len(y.modes) != names || len(y.names) != people {
		t.Errorf("%d names and %d who hold them; asked for: %d, %d", len(y.modes), len(y.names), names, people)
	}
	for name, l := range y.modes {
		for who, m := range l {
			if _, ok := y.names[who][name]; !ok || m == api.ModeNone {
				t.Errorf("%d holds %d on %q, which is not among its names", who, m, name)
			}
		}
		if len(l) == 0 {
			t.Errorf("%q is kept, and nobody holds it", name)
		}
	}
	for who, l := range y.names {
		for name := range l {
			if y.modes[name][who] == api.ModeNone {
				t.Errorf("%q is among the names of %d, which holds nothing on it", name, who)
			}
		}
		if len(l) == 0 {
			t.Errorf("%d is kept, and holds nothing", who)
		}
	}
}

func TestTableKeepsOnlyWhatIsHeld(t *testing.T) {
	y := New()
	wantSizes(t, y, 0, 0)
	y.Ask(1, "a", api.ModeIX)
	y.Ask(2, "a", api.ModeIX)
	y.Ask(2, "b", api.ModeX)
	wantSizes(t, y, 2, 2)
	// What is refused, or only looked at, leaves nothing.
	y.Ask(3, "a", api.ModeS)
	y.Ask(3, "c", api.ModeNone)
	y.Ask(3, "c", -1)
	y.Ask(1, "c", api.ModeX+1)
	y.Held(4, "d")
	y.Holders("d")
	y.Locks(4)
	y.Free(4)
	wantSizes(t, y, 2, 2)
	y.Free(2)
	wantSizes(t, y, 1, 1)
	y.Free(1)
	wantSizes(t, y, 0, 0)
}
