package redo_test

import (
	"bytes"
	"slices"
	"testing"

	"whim/api"
	"whim/entry"
	"whim/leaf"
	"whim/redo"
)

// given is a cell with what it receives.
type given struct {
	at api.RID
	b  []byte
}

// plainGiven is what an entry gives, written out.
func plainGiven(e api.Entry) []given {
	if e.Kind == 1 || e.Kind == 2 {
		return []given{{e.At, e.New}}
	}
	if e.Kind == 7 {
		var b []byte
		if e.To.Page >= 0 && e.To.Page < 32 && e.To.Cell >= 0 && e.To.Cell < 4 {
			b = stub(e.To.Page, e.To.Cell)
		}
		return []given{{e.At, b}, {e.To, e.New}}
	}
	var l []given
	if e.Kind == 8 {
		for _, m := range e.Moves {
			l = append(l, given{at: m.From})
		}
	}
	return l
}

func plainApply(p api.Page, n int, e api.Entry, lsn int) (api.Page, bool) {
	if lsn <= p.LSN {
		return p, false
	}
	is := false
	for _, g := range plainGiven(e) {
		if g.at.Page != n {
			continue
		}
		is = true
		for c := range p.Cells {
			if c == g.at.Cell {
				p.Cells[c] = g.b
			}
		}
	}
	if is {
		p.LSN = lsn
	}
	return p, is
}

func plainPages(e api.Entry) []int {
	var l []int
	for _, g := range plainGiven(e) {
		if g.at.Page >= 0 && g.at.Page < 32 {
			l = append(l, g.at.Page)
		}
	}
	slices.Sort(l)
	return slices.Compact(l)
}

// draw answers numbers from 0 to n - 1 that look mixed, and are always the same.
type draw uint32

func (d *draw) next(n int) int {
	*d = *d*1664525 + 1013904223
	return int(*d>>16) % n
}

// place is a cell of one of so many pages; seldom one that there is not.
func (d *draw) place(pages int) api.RID {
	at := rid(d.next(pages), d.next(api.Cells))
	switch d.next(16) {
	case 0:
		at.Page = noPages[d.next(len(noPages))]
	case 1:
		at.Cell = noCells[d.next(len(noCells))]
	}
	return at
}

// entry is one of any kind, mostly of those that touch something.
func (d *draw) entry(pages int) api.Entry {
	e := api.Entry{Kind: kinds[d.next(len(kinds))], Txn: 1, At: d.place(pages), To: d.place(pages), Old: row("old")}
	if d.next(8) == 0 {
		e.Kind = still[d.next(len(still))]
	}
	if d.next(4) > 0 {
		e.New = row(string(rune('a' + d.next(26))))
	}
	for range d.next(5) {
		e.Moves = append(e.Moves, api.Move{From: d.place(pages), To: d.place(pages)})
	}
	return e
}

// entries is a row of them, of which the first one has the number 1.
func (d *draw) entries(n, pages int) []api.Entry {
	var l []api.Entry
	for range n {
		l = append(l, d.entry(pages))
	}
	return l
}

// apply returns page n after these entries, of which the first one has the number first.
func apply(p api.Page, n int, l []api.Entry, first int) api.Page {
	for i, e := range l {
		p, _ = redo.Apply(p, n, e, first+i)
	}
	return p
}

func TestLongRunsAsThePlainOne(t *testing.T) {
	d := draw(16)
	for _, pages := range []int{1, 2, 3, api.MaxPages} {
		table := map[int]api.Page{}
		changed, unchanged := 0, 0
		for i := range 2000 {
			e := d.entry(pages)
			lsn := i + d.next(3) - 1 // now and then below what a page has
			wantPages(t, e, plainPages(e)...)
			for n := -1; n <= pages; n++ {
				asked, is := plainApply(table[n], n, e, lsn)
				wantApply(t, table[n], n, e, lsn, asked, is)
				table[n] = asked
				if is {
					changed++
				} else {
					unchanged++
				}
			}
		}
		if changed < 1000 || unchanged < 1000 {
			t.Errorf("of %d pages: %d answers with a change, and %d without one", pages, changed, unchanged)
		}
	}
}

// What follows: entries that are applied again lead to the same page.

func TestApplyTwice(t *testing.T) {
	d := draw(1)
	for range 3000 {
		e, n := d.entry(2), d.next(4)-1
		p, is := redo.Apply(full(5), n, e, 6)
		q, again := redo.Apply(p, n, e, 6)
		if again || !equal(p, q) {
			t.Errorf("Apply(%v) on page %d: %v, %t, and then %v, %t", e, n, p, is, q, again)
		}
	}
}

func TestApplyAllAgainFromAnyPlaceOn(t *testing.T) {
	d := draw(2)
	for pages := 1; pages <= 3; pages++ {
		for range 12 {
			l := d.entries(24, pages)
			for n := -1; n <= pages; n++ {
				end := apply(api.Page{}, n, l, 1)
				for upTo := range len(l) + 1 {
					// The page as it was left, to which the entries up to there were applied.
					left := apply(api.Page{}, n, l[:upTo], 1)
					for from := range upTo + 1 {
						if p := apply(left, n, l[from:], from+1); !equal(p, end) {
							t.Fatalf("page %d, left at %d, again from %d on: %v; asked for: %v", n, upTo, from, p, end)
						}
					}
				}
			}
		}
	}
}

// TestApplyAgainSeveralTimes cuts a restart off at any place, and starts from the first entry once more.
func TestApplyAgainSeveralTimes(t *testing.T) {
	d := draw(3)
	l := d.entries(40, 2)
	for n := range 2 {
		end := apply(api.Page{}, n, l, 1)
		p := api.Page{}
		for upTo := range len(l) + 1 {
			p = apply(p, n, l[:upTo], 1)
			if !equal(p, apply(api.Page{}, n, l[:upTo], 1)) {
				t.Fatalf("page %d, again up to %d: %v", n, upTo, p)
			}
		}
		if p = apply(p, n, l, 1); !equal(p, end) {
			t.Errorf("page %d: %v; asked for: %v", n, p, end)
		}
	}
}

// TestAsTheyAreKept applies entries that went through their bytes to pages that went through their tiles.
func TestAsTheyAreKept(t *testing.T) {
	d := draw(4)
	kept := 0
	var p [4]api.Page
	for i, e := range d.entries(3000, 4) {
		b := entry.Put(e)
		if b == nil {
			continue
		}
		kept++
		f, errno := entry.Take(b)
		if errno != api.OK {
			t.Fatalf("entry.Take: %d", errno)
		}
		for n := range p {
			a, c, errno := leaf.Put(p[n])
			if errno != api.OK {
				t.Fatalf("leaf.Put(%v): %d", p[n], errno)
			}
			q, errno := leaf.Take(a, c)
			if errno != api.OK {
				t.Fatalf("leaf.Take of %v: %d", p[n], errno)
			}
			q, is := redo.Apply(q, n, f, i+1)
			asked, was := redo.Apply(p[n], n, e, i+1)
			if is != was || !leaf.Same(q, asked) {
				t.Fatalf("entry %d on page %d: %v, %t; asked for: %v, %t", i+1, n, q, is, asked, was)
			}
			p[n] = asked
		}
	}
	if kept < 1000 {
		t.Errorf("%d entries", kept)
	}
	stubs := 0
	for n := range p {
		for _, c := range p[n].Cells {
			if bytes.HasPrefix(c, []byte{2}) {
				stubs++
			}
		}
	}
	if stubs == 0 {
		t.Errorf("no stub is on any page: %v", p)
	}
}
