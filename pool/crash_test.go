package pool_test

import (
	"strconv"
	"testing"

	"whim/api"
	"whim/leaf"
	"whim/pool"
	"whim/tile"
	"whim/trail"
)

// history is entries, and the pages as they are behind each number of them.
type history struct {
	entries []api.Entry
	pages   [][]api.Page
}

func (h *history) add(e api.Entry) {
	all := append([]api.Page(nil), h.pages[len(h.entries)]...)
	g := &all[e.At.Page]
	g.Cells[e.At.Cell], g.LSN = e.New, len(h.entries)+1
	h.entries = append(h.entries, e)
	h.pages = append(h.pages, all)
}

// deed is one thing that is done to a pool, or to its log.
type deed struct {
	kind byte // 's' for an entry and its Set, 'f' for a Flush, 'o' for a Force, 'p' for a Page
	n    int
	at   int
	b    []byte
}

// do does it, and tells the first error.
func (x deed) do(w *world) api.Errno {
	switch x.kind {
	case 's':
		lsn, e := w.g.Append(set(x.n, x.at, x.b))
		if e != api.OK {
			return e
		}
		return w.p.Set(x.n, x.at, x.b, lsn)
	case 'f':
		return w.p.Flush(x.n)
	case 'o':
		return w.g.Force()
	}
	_, e := w.p.Page(x.n)
	return e
}

// deeds are some that bring about many flushes.
func deeds(r *dice, pages, count int) []deed {
	var l []deed
	for range count {
		x := deed{kind: "ssssssffpo"[r.next(10)], n: r.next(pages), at: r.next(api.Cells)}
		if x.b = r.cell(); x.b == nil {
			x.b = row("none")
		}
		l = append(l, x)
	}
	return l
}

// crashed does deeds on a new pool, of which the disk is cut, and returns that disk, with power; nil if it was not cut.
func crashed(t *testing.T, l []deed, pages, frames, at int, mask byte) *tile.Disk {
	t.Helper()
	w := made(t, pages, frames)
	w.d.Arm(at, []byte{mask})
	for _, x := range l {
		switch e := x.do(w); {
		case e == api.ErrDown:
			want(t, "Dead", w.d.Dead(), true)
			w.d.Power()
			return w.d
		case e != api.OK:
			t.Fatalf("%c of %d: %d", x.kind, x.n, e)
		}
	}
	return nil
}

// wantBehind holds a disk behind a crash against what was done: no page is ahead of the entries, and these make all pages anew.
func wantBehind(t *testing.T, d *tile.Disk, h *history, at string) {
	t.Helper()
	pages := len(h.pages[0])
	g, l, e := trail.Open(d, first+2*pages+1, logTiles)
	want(t, "Open", e, api.OK)
	p := pool.New(d, g, first, pages, 2)
	for n := range pages {
		was, e := p.Page(n)
		switch {
		case e == api.ErrTorn:
			want(t, "Lay", p.Lay(n, api.Page{}, 1), api.OK)
		case e != api.OK:
			t.Fatalf("%s: page %d: %d", at, n, e)
		case was.LSN > len(l):
			t.Fatalf("%s: page %d is ahead of its entries: %d; there are %d", at, n, was.LSN, len(l))
		case !leaf.Same(was, h.pages[was.LSN][n]):
			t.Fatalf("%s: page %d has %v; asked for: %v", at, n, was, h.pages[was.LSN][n])
		}
	}
	for i, e := range l {
		want(t, "redo: Set", p.Set(e.At.Page, e.At.Cell, e.New, i+1), api.OK)
	}
	for n, asked := range h.pages[len(l)] {
		if got, e := p.Page(n); e != api.OK || !leaf.Same(got, asked) {
			t.Fatalf("%s: page %d anew: %v, %d; asked for: %v", at, n, got, e, asked)
		}
	}
}

// told is the history of deeds.
func told(l []deed, pages int) *history {
	h := &history{pages: [][]api.Page{make([]api.Page, pages)}}
	for _, x := range l {
		if x.kind == 's' {
			h.add(set(x.n, x.at, x.b))
		}
	}
	return h
}

// TestNoPageIsAheadOfItsEntries cuts the disk at each of its operations, whatever survives.
func TestNoPageIsAheadOfItsEntries(t *testing.T) {
	const pages = 4
	r := &dice{seed: 3}
	for run := range 30 {
		l, frames := deeds(r, pages, 24), 1+run%3
		h := told(l, pages)
		cuts := 0
		for ; crashed(t, l, pages, frames, cuts, 0) != nil; cuts++ {
			for mask := range 16 {
				// Of many loose tiles the last ones, those that were written when the cut came, count most.
				m := byte(mask | mask<<4)
				at := "run " + strconv.Itoa(run) + ", cut " + strconv.Itoa(cuts) + ", mask " + strconv.Itoa(int(m))
				wantBehind(t, crashed(t, l, pages, frames, cuts, m), h, at)
			}
		}
		if cuts < 10 {
			t.Errorf("run %d: %d operations", run, cuts)
		}
	}
}
