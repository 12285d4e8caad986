package undo_test

import (
	"bytes"
	"slices"
	"strconv"
	"testing"

	"whim/api"
	"whim/entry"
	"whim/redo"
	"whim/undo"
)

// rows are entries, the first of which has the number 1.
type rows []api.Entry

func (l rows) at(lsn int) api.Entry { return l[lsn-1] }

// last is the number of a transaction's last entry, 0 if it has none.
func (l rows) last(txn int) int {
	for i, e := range slices.Backward(l) {
		if e.Txn == txn {
			return i + 1
		}
	}
	return 0
}

// set adds a set whose Old tells its number.
func (l *rows) set(txn int) {
	old := []byte(strconv.Itoa(len(*l) + 1))
	*l = append(*l, api.Entry{Kind: api.EntSet, Txn: txn, Prev: l.last(txn), Next: 999, At: api.RID{Page: len(*l)}, Old: old, New: []byte("new")})
}

// mark adds an entry of a transaction that names the one before it, and neither sets nor undoes.
func (l *rows) mark(kind, txn int) {
	*l = append(*l, api.Entry{Kind: kind, Txn: txn, Prev: l.last(txn), Next: 999})
}

// next is the number of the set of a transaction that is to be undone next, 0 if there is none: it is found by the entries alone, and -1 tells that they lead nowhere.
func (l rows) next(txn int) int {
	n := l.last(txn)
	if n > 0 {
		n = undo.Next(l.at(n), n)
	}
	for n > 0 && l.at(n).Kind != api.EntSet {
		m := undo.Next(l.at(n), n) // An entry that undoes, with a set behind it.
		if m >= n {
			return -1
		}
		n = m
	}
	return n
}

// step undoes one set of a transaction, and returns its number; 0 if nothing is left to be undone.
func (l *rows) step(t *testing.T, txn int) int {
	t.Helper()
	n := l.next(txn)
	if n < 1 || n > len(*l) {
		return n
	}
	b, is := undo.Back(l.at(n), l.last(txn))
	asked := api.Entry{Kind: 2, Txn: txn, Prev: l.last(txn), Next: l.at(n).Prev, At: l.at(n).At, New: []byte(strconv.Itoa(n))}
	if !is || !entry.Same(b, asked) {
		t.Fatalf("Back of entry %d of %v: %v, %t; asked for: %v", n, *l, b, is, asked)
	}
	*l = append(*l, b)
	return n
}

// wantUndone holds that these sets of a transaction are undone, in this order, and nothing else, on whatever entries the undoing was cut off.
func wantUndone(t *testing.T, l rows, txn int, asked ...int) {
	t.Helper()
	for cut := range len(asked) + 1 {
		g := slices.Clone(l)
		for i, n := range asked {
			if i == cut {
				g = g[: len(l)+cut : len(l)+cut] // What was kept of it: as many entries that undo.
			}
			if m := g.step(t, txn); m != n {
				t.Fatalf("%v, cut off at %d: set %d was undone; asked for: %d", l, cut, m, n)
			}
		}
		if m := g.step(t, txn); m != 0 {
			t.Fatalf("%v, cut off at %d: set %d was undone; asked for: none", l, cut, m)
		}
	}
}

// reversed are the numbers of a list from its end on.
func reversed(l []int) []int {
	r := slices.Clone(l)
	slices.Reverse(r)
	return r
}

// What follows: what was undone is not undone again.

func TestSetsAreUndoneTheLastOneFirst(t *testing.T) {
	for n := range 40 {
		var l rows
		var sets []int
		for range n {
			l.set(3)
			sets = append(sets, len(l))
		}
		wantUndone(t, l, 3, reversed(sets)...)
		wantUndone(t, l, 4)
		l.mark(api.EntAbort, 3)
		wantUndone(t, l, 3, reversed(sets)...)
	}
}

func TestSetsOfOthersStay(t *testing.T) {
	var l rows
	var sets [4][]int
	for i := range 60 {
		txn := i * i % 7 % 4 // mixed
		l.set(txn)
		sets[txn] = append(sets[txn], len(l))
		if i%9 == 0 {
			l = append(l, api.Entry{Kind: api.EntMove, Txn: -1, Unit: 1, Prev: 1, Next: 2})
		}
	}
	for txn := range sets {
		wantUndone(t, l, txn, reversed(sets[txn])...)
	}
}

func TestNothingIsUndoneBehindAnEnd(t *testing.T) {
	for _, kind := range still {
		var l rows
		l.set(3)
		l.set(3)
		l.mark(kind, 3)
		wantUndone(t, l, 3)
	}
}

// TestUndoneFromAnyPlaceOn cuts every row off behind each of its entries, and undoes what is left.
func TestUndoneFromAnyPlaceOn(t *testing.T) {
	var l rows
	for range 12 {
		l.set(3)
	}
	for range 8 {
		l.step(t, 3)
	}
	l.set(3)
	l.mark(api.EntAbort, 3)
	for range 5 {
		l.step(t, 3)
	}
	if len(l) != 27 || l.next(3) != 0 {
		t.Errorf("%d entries, and %d is next: %v", len(l), l.next(3), l)
	}
	for upTo := range len(l) + 1 {
		g := l[:upTo:upTo]
		wantUndone(t, g, 3, reversed(open(g, 3))...)
	}
}

// open are the sets of a transaction that are not undone: of each one that is, the Old is in an entry that undoes.
func open(l rows, txn int) []int {
	var sets []int
	for i, e := range l {
		if e.Txn != txn {
			continue
		}
		switch e.Kind {
		case api.EntSet:
			sets = append(sets, i+1)
		case api.EntBack:
			n, _ := strconv.Atoi(string(e.New))
			sets = slices.DeleteFunc(sets, func(m int) bool { return m == n })
		}
	}
	return sets
}

// TestEveryRowOfStepsOfOneTransaction sets and undoes in every order, with an entry that aborts at its end or none.
func TestEveryRowOfStepsOfOneTransaction(t *testing.T) {
	const most = 10
	for steps := range most + 1 {
		for which := range 1 << steps {
			var l rows
			var sets []int
			for i := range steps {
				if which>>i&1 == 0 {
					l.set(5)
					sets = append(sets, len(l))
					continue
				}
				asked := 0
				if len(sets) > 0 {
					asked, sets = sets[len(sets)-1], sets[:len(sets)-1]
				}
				if n := l.step(t, 5); n != asked {
					t.Fatalf("%v: set %d was undone; asked for: %d", l, n, asked)
				}
			}
			wantUndone(t, l, 5, reversed(sets)...)
			l.mark(api.EntAbort, 5)
			wantUndone(t, l, 5, reversed(sets)...)
		}
	}
}

// draw answers numbers from 0 to n - 1 that look mixed, and are always the same.
type draw uint32

func (d *draw) next(n int) int {
	*d = *d*1664525 + 1013904223
	return int(*d>>16) % n
}

// TestLongRunsAsThePlainOne lets several transactions set and undo, and holds what is undone against a plain list of each one's sets.
func TestLongRunsAsThePlainOne(t *testing.T) {
	d := draw(17)
	for range 20 {
		var l rows
		var sets [7][]int
		undone := 0
		for range 600 {
			txn := 1 + d.next(6)
			had := sets[txn]
			switch {
			case d.next(12) == 0:
				l.mark(api.EntAbort, txn)
			case d.next(5) < 3:
				l.set(txn)
				sets[txn] = append(had, len(l))
			default:
				asked := 0
				if len(had) > 0 {
					asked, sets[txn] = had[len(had)-1], had[:len(had)-1]
					undone++
				}
				if n := l.step(t, txn); n != asked {
					t.Fatalf("%v: set %d was undone; asked for: %d", l, n, asked)
				}
			}
		}
		for txn := range sets {
			wantUndone(t, l, txn, reversed(sets[txn])...)
		}
		if undone < 100 {
			t.Errorf("%d sets were undone", undone)
		}
	}
}

// TestThePageIsAsBefore sets the cells of a page, undoes it all, and keeps the entries as bytes meanwhile.
func TestThePageIsAsBefore(t *testing.T) {
	d := draw(3)
	cells := [][]byte{nil, bytes.Repeat([]byte{1}, api.CellSize), bytes.Repeat([]byte{2}, api.CellSize), make([]byte, api.CellSize)}
	for range 200 {
		p := api.Page{LSN: -1}
		for c := range p.Cells {
			p.Cells[c] = cells[d.next(len(cells))]
		}
		before, l := p, rows{}
		add := func(e api.Entry) {
			kept, errno := entry.Take(entry.Put(e))
			if errno != api.OK {
				t.Fatalf("entry.Take of %v: %d", e, errno)
			}
			l = append(l, kept)
			p, _ = redo.Apply(p, 0, kept, len(l))
		}
		for range d.next(20) {
			c := d.next(api.Cells)
			add(api.Entry{Kind: api.EntSet, Txn: 2, Prev: l.last(2), At: api.RID{Cell: c}, Old: p.Cells[c], New: cells[d.next(len(cells))]})
		}
		for range len(l) {
			b, _ := undo.Back(l.at(l.next(2)), l.last(2))
			add(b)
		}
		for c := range p.Cells {
			if !bytes.Equal(p.Cells[c], before.Cells[c]) {
				t.Fatalf("behind %v, cell %d is %v; it was %v", l, c, p.Cells[c], before.Cells[c])
			}
		}
	}
}
