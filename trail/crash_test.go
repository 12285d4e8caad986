package trail_test

import (
	"bytes"
	"slices"
	"testing"

	"whim/api"
	"whim/tile"
	"whim/trail"
)

// found is how many of these entries the tiles of a log still have: those that are whole in the bytes up to a tile that is not full.
func found(t *testing.T, d *tile.Disk, l []api.Entry) int {
	t.Helper()
	var b []byte
	for i := first; i < d.Tiles()-behind; i++ {
		c, e := d.Read(i)
		want(t, "Read", e, api.OK)
		b = append(b, c[1:1+c[0]]...)
		if c[0] < roomLen {
			break
		}
	}
	n := 0
	for n < len(l) && bytes.HasPrefix(b, stream(l[:n+1])) {
		n++
	}
	return n
}

// wantFound opens a log behind a crash, holds it against what survived, and sees that it may be gone on with.
func wantFound(t *testing.T, d *tile.Disk, l []api.Entry, stable int) {
	t.Helper()
	n := found(t, d, l)
	if n < stable {
		t.Fatalf("%d entries survived of %d that were stable", n, stable)
	}
	g := open(t, d, l[:n]...)
	wantTiles(t, "behind a crash", d, stream(l[:n]))
	want(t, "loose tiles", len(d.Loose()), 0)
	asked := append(slices.Clone(l[:n]), set(200))
	appendAll(t, g, set(200))
	want(t, "Force", g.Force(), api.OK)
	wantTiles(t, "behind a crash", d, stream(asked))
	open(t, d, asked...)
}

// crashed runs f on copies of a disk, cut at each of its operations with each subset of the loose tiles, and shows them to see.
func crashed(t *testing.T, d *tile.Disk, f func(d *tile.Disk) api.Errno, see func(d *tile.Disk)) {
	t.Helper()
	for at := range 30 {
		c := d.Copy()
		c.Arm(at, nil)
		if f(c) == api.OK {
			return
		}
		want(t, "Dead", c.Dead(), true)
		for mask := range 1 << min(at+1, 8) {
			c := d.Copy()
			c.Arm(at, []byte{byte(mask)})
			want(t, "an operation that is cut", f(c), api.ErrDown)
			c.Power()
			see(c)
		}
	}
	t.Fatal("operations without end")
}

// opened is Open, of which only the error counts.
func opened(d *tile.Disk) api.Errno {
	_, _, e := trail.Open(d, first, d.Tiles()-first-behind)
	return e
}

// forced opens a log, appends entries, and forces them.
func forced(t *testing.T, l []api.Entry) func(d *tile.Disk) api.Errno {
	return func(d *tile.Disk) api.Errno {
		t.Helper()
		g, _, e := trail.Open(d, first, d.Tiles()-first-behind)
		if e != api.OK {
			return e
		}
		appendAll(t, g, l...)
		return g.Force()
	}
}

// What follows

func TestAnyCrashLeavesAPrefixWithAllThatWereStable(t *testing.T) {
	for _, l := range [][]api.Entry{
		{end(1), end(2), end(3)},
		{set(1), set(2), set(3), set(4)},
		{whole(1), whole(2), whole(3)},
		{end(1), long(2, 30), end(3)},
		{long(1, 0), end(2), whole(3), set(4), end(5)},
		{whole(1), end(2), end(3), end(4), set(5), whole(6)},
	} {
		for stable := range l {
			d := empty(t, 8)
			want(t, "Force", forced(t, l[:stable])(d), api.OK)
			crashed(t, d, forced(t, l[stable:]), func(d *tile.Disk) {
				n := found(t, d, l)
				// The Open behind the crash may be cut too, and finds the same then.
				crashed(t, d, opened, func(d *tile.Disk) {
					want(t, "entries behind two crashes", found(t, d, l), n)
					wantFound(t, d.Copy(), l, stable)
				})
				wantFound(t, d, l, stable)
			})
		}
	}
}

func TestCrashWithoutForceLosesWhatIsNotStable(t *testing.T) {
	d := empty(t, 4)
	g := open(t, d)
	appendAll(t, g, end(1), set(2))
	want(t, "Force", g.Force(), api.OK)
	appendAll(t, g, whole(3))
	for _, mask := range [][]byte{nil, {255}} {
		d.Crash(mask)
		d.Power()
		wantTiles(t, "a crash", d, stream([]api.Entry{end(1), set(2)}))
		open(t, d, end(1), set(2))
	}
}

// life is a log with what is known of it.
type life struct {
	d      *tile.Disk
	g      *trail.Trail
	l      []api.Entry
	stable int
}

// restart opens the log, which may be cut, until it is open.
func (f *life) restart(t *testing.T, at int, mask byte) {
	f.d.Power()
	f.d.Arm(at, []byte{mask})
	opened(f.d)
	f.d.Power()
	f.d.Arm(-1, nil)
	n := found(t, f.d, f.l)
	if n < f.stable {
		t.Fatalf("%d entries survived of %d that were stable", n, f.stable)
	}
	f.l, f.stable = f.l[:n:n], n
	f.g = open(t, f.d, f.l...)
	wantTiles(t, "a restart", f.d, stream(f.l))
}

func (f *life) force(t *testing.T, at int, mask byte) {
	was, new := f.d.Dead(), len(f.l) > f.stable
	f.d.Arm(at, []byte{mask})
	e := f.g.Force()
	f.d.Arm(-1, nil)
	if e == api.OK {
		f.stable = len(f.l)
	}
	switch {
	case e == api.OK && new:
		want(t, "Force: loose tiles", len(f.d.Loose()), 0)
		wantTiles(t, "Force", f.d, stream(f.l))
	case e == api.OK:
		want(t, "Force of nothing new: Dead", f.d.Dead(), was)
	case !new || e != api.ErrDown || !f.d.Dead():
		t.Errorf("Force: %d; new: %t, Dead: %t", e, new, f.d.Dead())
	}
}

func (f *life) append(t *testing.T, e api.Entry) {
	if len(stream(append(f.l, e))) > 8*roomLen {
		wantAppend(t, f.g, e, 0, api.ErrFull)
		return
	}
	f.l = append(f.l, e)
	wantAppend(t, f.g, e, len(f.l), api.OK)
}

// TestLongRuns goes through many lives of many steps, in an order that is always the same.
func TestLongRuns(t *testing.T) {
	seed := uint32(7)
	next := func(n int) int {
		seed = seed*1664525 + 1013904223
		return int(seed>>16) % n
	}
	for range 1500 {
		f := &life{d: empty(t, 8)}
		f.restart(t, -1, 0)
		for range 30 {
			switch next(10) {
			case 0, 1, 2:
				f.append(t, end(next(256)))
			case 3:
				f.append(t, set(next(200)))
			case 4:
				f.append(t, long(next(200), next(20)))
			case 5:
				f.force(t, -1, 0)
			case 6, 7:
				f.force(t, next(5), byte(next(256)))
			case 8:
				f.d.Power() // and the log goes on as it is
			case 9:
				f.restart(t, next(5)-1, byte(next(256)))
			}
			wantState(t, "a step", f.g, len(f.l), f.stable, 8*roomLen-len(stream(f.l)))
		}
		if t.Failed() {
			return
		}
	}
}
