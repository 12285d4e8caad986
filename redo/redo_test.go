package redo_test

import (
	"bytes"
	"math"
	"reflect"
	"slices"
	"testing"

	"whim/api"
	"whim/cell"
	"whim/entry"
	"whim/redo"
)

// The face, as the chapter lists it.
var (
	_ func(e api.Entry) []int                                             = redo.Pages
	_ func(p api.Page, n int, e api.Entry, lsn int) (q api.Page, is bool) = redo.Apply
)

var (
	// kinds are those of which entries touch cells.
	kinds = []int{api.EntSet, api.EntBack, api.EntMove, api.EntDone}

	// still are kinds, known and unknown, of which entries touch nothing.
	still = []int{
		api.EntCommit, api.EntAbort, api.EntEnd, api.EntUnit, api.EntMark, api.EntTurn,
		0, 11, 12, 17, 18, 23, 24, 255, 256, 257, 258, 263, 264, 1<<16 + 1, 1<<32 + 1, 1<<32 + 2, 1<<32 + 7, 1<<32 + 8, math.MaxInt - 1, math.MaxInt,
		-1, -2, -7, -8, -9, -255, -256, -1 << 32, math.MinInt, math.MinInt + 1, math.MinInt + 7,
	}

	// noPages are numbers of pages that there are not.
	noPages = []int{-1, -2, -api.MaxPages, -256, -1 << 32, math.MinInt, math.MinInt + 1, api.MaxPages, api.MaxPages + 1, 2 * api.MaxPages, 256, 1 << 31, 1 << 32, 1<<32 + 1, math.MaxInt - 1, math.MaxInt}

	// noCells are numbers of cells that a page doesn't have.
	noCells = []int{-1, -2, -api.Cells, -256, -1 << 32, math.MinInt, math.MinInt + 1, api.Cells, api.Cells + 1, 2 * api.Cells, 256, 1 << 31, 1 << 32, 1<<32 + 1, math.MaxInt - 1, math.MaxInt}
)

// rid is a cell of a page.
func rid(page, at int) api.RID { return api.RID{Page: page, Cell: at} }

// row is the cell of a row of this key.
func row(key string) []byte {
	b, _ := cell.Row(api.Row{Key: key, Sec: "s" + key, Val: "v"})
	return b
}

// stub is the bytes of a stub, as chapter 3 has them.
func stub(page, at int) []byte {
	b := make([]byte, api.CellSize)
	b[0], b[1], b[2] = 2, byte(page), byte(at)
	return b
}

func page(lsn int, cells ...[]byte) api.Page {
	p := api.Page{LSN: lsn}
	copy(p.Cells[:], cells)
	return p
}

// full is a page with other bytes in each of its cells.
func full(lsn int) api.Page {
	return page(lsn, row("a"), stub(1, 2), row("c"), row("d"))
}

// with is p with other bytes in a cell.
func with(p api.Page, at int, b []byte) api.Page {
	p.Cells[at] = b
	return p
}

// at is p with another LSN.
func at(p api.Page, lsn int) api.Page {
	p.LSN = lsn
	return p
}

// equal compares byte by byte: no bytes and zeros are different here.
func equal(a, b api.Page) bool {
	for i := range a.Cells {
		if !bytes.Equal(a.Cells[i], b.Cells[i]) {
			return false
		}
	}
	return a.LSN == b.LSN
}

func set(to api.RID, b []byte) api.Entry {
	return api.Entry{Kind: api.EntSet, Txn: 1, At: to, New: b}
}

func back(to api.RID, b []byte) api.Entry {
	return api.Entry{Kind: api.EntBack, Txn: 1, At: to, New: b}
}

func move(from, to api.RID, b []byte) api.Entry {
	return api.Entry{Kind: api.EntMove, Unit: 1, At: from, To: to, New: b}
}

// done is an EntDone with moves from these places to others, none of which is on a page of theirs.
func done(from ...api.RID) api.Entry {
	e := api.Entry{Kind: api.EntDone, Unit: 1}
	for _, f := range from {
		e.Moves = append(e.Moves, api.Move{From: f, To: rid(30, 1)})
	}
	return e
}

// crowded is an entry of this kind in which every field leads to page n.
func crowded(kind, n int) api.Entry {
	moves := []api.Move{{From: rid(n, 2), To: rid(n, 3)}, {From: rid(n, 3), To: rid(n, 0)}}
	return api.Entry{
		Kind: kind, Txn: 1, Unit: 2, Half: 1, Prev: n, Next: n,
		At: rid(n, 0), To: rid(n, 1), Old: row("old"), New: row("new"),
		Moves: moves,
		Lives: []api.Live{{Txn: 1, Last: n, Next: n, Commit: true}},
		Dirty: []api.Dirty{{Page: n, Rec: 1}},
		Open:  []api.Open{{Unit: 2, Moves: slices.Clone(moves), Done: 1}},
	}
}

// wantApply holds that Apply answers this page, and whether it has changed.
func wantApply(t *testing.T, p api.Page, n int, e api.Entry, lsn int, asked api.Page, changed bool) {
	t.Helper()
	q, is := redo.Apply(p, n, e, lsn)
	if is != changed || !equal(q, asked) {
		t.Errorf("Apply(%v, %d, %v, %d): %v, %t; asked for: %v, %t", p, n, e, lsn, q, is, asked, changed)
	}
}

// wantChanged holds that an entry changes page n from p to what is asked for, and only if the number is above the page's.
func wantChanged(t *testing.T, p api.Page, n int, e api.Entry, asked api.Page) {
	t.Helper()
	for _, lsn := range []int{p.LSN + 1, p.LSN + 2, p.LSN + 1<<32, math.MaxInt - 1, math.MaxInt} {
		wantApply(t, p, n, e, lsn, at(asked, lsn), true)
	}
	for _, lsn := range []int{p.LSN, p.LSN - 1, 0, -1, math.MinInt, math.MinInt + 1} {
		wantApply(t, p, n, e, lsn, p, false)
	}
}

// wantSame holds that an entry doesn't change page n, whatever its number is.
func wantSame(t *testing.T, p api.Page, n int, e api.Entry) {
	t.Helper()
	for _, lsn := range []int{math.MinInt, -1, 0, p.LSN - 1, p.LSN, p.LSN + 1, p.LSN + 2, math.MaxInt} {
		wantApply(t, p, n, e, lsn, p, false)
	}
}

// wantBeside holds that an entry doesn't change the pages just beside these, nor those that are far from them.
func wantBeside(t *testing.T, e api.Entry, pages ...int) {
	t.Helper()
	for _, n := range pages {
		for _, m := range []int{n - 1, n + 1, n + 256, n + 1<<32, -n - 1, n ^ math.MinInt} {
			if !slices.Contains(pages, m) {
				wantSame(t, full(5), m, e)
			}
		}
	}
}

func wantPages(t *testing.T, e api.Entry, asked ...int) {
	t.Helper()
	if l := redo.Pages(e); !slices.Equal(l, asked) {
		t.Errorf("Pages(%v): %v; asked for: %v", e, l, asked)
	}
}

// P16.1: the example of the chapter.

func TestExample(t *testing.T) {
	e := set(rid(3, 1), row("x"))
	wantApply(t, full(5), 3, e, 5, full(5), false)
	wantApply(t, full(5), 3, e, 6, with(full(6), 1, row("x")), true)
}

// P16.1: Apply of every kind.

func TestSetAndBackGiveNew(t *testing.T) {
	for _, f := range []func(api.RID, []byte) api.Entry{set, back} {
		for n := range api.MaxPages {
			for c := range api.Cells {
				for _, b := range [][]byte{row("x"), stub(2, 1), nil, {}, row("x")[:0], {7}, make([]byte, api.CellSize), bytes.Repeat([]byte{9}, api.CellSize-1), bytes.Repeat([]byte{9}, api.CellSize+1), bytes.Repeat([]byte{1, 2}, 1<<12)} {
					e := f(rid(n, c), b)
					wantChanged(t, full(5), n, e, with(full(5), c, b))
					wantChanged(t, page(5), n, e, with(page(5), c, b))
				}
			}
			wantBeside(t, f(rid(n, 1), row("x")), n)
		}
	}
}

func TestSetAndBackLookAtNothingElse(t *testing.T) {
	for _, kind := range []int{api.EntSet, api.EntBack} {
		e := crowded(kind, 4)
		wantChanged(t, full(5), 4, e, with(full(5), 0, row("new")))
		e.At.Page = 9
		wantSame(t, full(5), 4, e)
		wantChanged(t, full(5), 9, e, with(full(5), 0, row("new")))
	}
}

func TestMoveOnTwoPages(t *testing.T) {
	for from := range api.MaxPages {
		for c := range api.Cells {
			for _, to := range []api.RID{rid((from+1)%api.MaxPages, c), rid((from+31)%api.MaxPages, 0), rid((from+16)%api.MaxPages, 3)} {
				for _, b := range [][]byte{row("x"), nil, {7}} {
					e := move(rid(from, c), to, b)
					wantChanged(t, full(5), from, e, with(full(5), c, stub(to.Page, to.Cell)))
					wantChanged(t, full(5), to.Page, e, with(full(5), to.Cell, b))
					wantBeside(t, e, from, to.Page)
				}
			}
		}
	}
}

func TestMoveOnOnePage(t *testing.T) {
	for n := range api.MaxPages {
		for from := range api.Cells {
			for to := range api.Cells {
				for _, b := range [][]byte{row("x"), nil, {7}} {
					// In the same cell New stands: that is given later.
					asked := with(with(full(5), from, stub(n, to)), to, b)
					wantChanged(t, full(5), n, move(rid(n, from), rid(n, to), b), asked)
				}
			}
		}
		wantBeside(t, move(rid(n, 0), rid(n, 1), row("x")), n)
	}
}

func TestMoveToWhereNoStubLeads(t *testing.T) {
	var none []api.RID
	for _, n := range noPages {
		none = append(none, rid(n, 0), rid(n, 3), rid(n, api.Cells), rid(n, -1))
	}
	for _, c := range noCells {
		none = append(none, rid(7, c))
	}
	for _, to := range none {
		if _, e := cell.Stub(to); e != api.ErrBad {
			t.Fatalf("cell.Stub(%v): %d", to, e)
		}
		for c := range api.Cells {
			e := move(rid(6, c), to, row("x"))
			wantChanged(t, full(5), 6, e, with(full(5), c, nil))
			wantChanged(t, page(5), 6, e, page(5))
			there := full(5)
			if to.Cell >= 0 && to.Cell < api.Cells {
				there = with(there, to.Cell, row("x"))
			}
			wantChanged(t, full(5), to.Page, e, there)
		}
	}
	// The same on one page, and in one cell.
	wantChanged(t, full(5), 6, move(rid(6, 2), rid(6, 4), row("x")), with(full(5), 2, nil))
	wantChanged(t, full(5), 6, move(rid(6, 2), rid(6, -1), row("x")), with(full(5), 2, nil))
	wantChanged(t, full(5), 40, move(rid(40, 2), rid(40, 1), row("x")), with(with(full(5), 2, nil), 1, row("x")))
	wantChanged(t, full(5), 40, move(rid(40, 2), rid(40, 2), row("x")), with(full(5), 2, row("x")))
	wantChanged(t, full(5), -1, move(rid(-1, 2), rid(-1, 2), nil), with(full(5), 2, nil))
}

func TestMoveFromACellThatIsNone(t *testing.T) {
	for _, c := range noCells {
		e := move(rid(6, c), rid(8, 1), row("x"))
		wantChanged(t, full(5), 6, e, full(5))
		wantChanged(t, full(5), 8, e, with(full(5), 1, row("x")))
		wantChanged(t, full(5), 8, move(rid(8, c), rid(8, 1), row("x")), with(full(5), 1, row("x")))
		wantChanged(t, full(5), 8, move(rid(8, c), rid(8, c), row("x")), full(5))
	}
	for _, n := range noPages {
		e := move(rid(n, 0), rid(8, 1), row("x"))
		wantChanged(t, full(5), n, e, with(full(5), 0, stub(8, 1)))
		wantChanged(t, full(5), 8, e, with(full(5), 1, row("x")))
	}
}

func TestMoveLooksAtNothingElse(t *testing.T) {
	e := crowded(api.EntMove, 4)
	wantChanged(t, full(5), 4, e, with(with(full(5), 0, stub(4, 1)), 1, row("new")))
	e.At.Page, e.To.Page = 9, 8
	wantSame(t, full(5), 4, e)
}

func TestDone(t *testing.T) {
	for n := range api.MaxPages - 2 {
		wantSame(t, full(5), n, done())
		for c := range api.Cells {
			wantChanged(t, full(5), n, done(rid(n, c)), with(full(5), c, nil))
			wantChanged(t, page(5), n, done(rid(n, c)), page(5))
			for d := range api.Cells {
				// Two of one page, or the same one twice; with moves of other pages ahead, between and behind.
				asked := with(with(full(5), c, nil), d, nil)
				wantChanged(t, full(5), n, done(rid(n, c), rid(n, d)), asked)
				wantChanged(t, full(5), n, done(rid(n+1, 0), rid(n, c), rid(-n-1, 1), rid(n+256, 2), rid(n, d), rid(n+1, 3)), asked)
			}
		}
		e := done(rid(n, 3), rid(n, 2), rid(n, 1), rid(n, 0))
		wantChanged(t, full(5), n, e, page(5))
		wantBeside(t, e, n)
	}
}

func TestDoneOfManyMoves(t *testing.T) {
	const most = 1 << 16
	var l []api.RID
	for i := range most {
		l = append(l, rid(i%5, i/5%2))
	}
	l = append(l, rid(17, 2))
	for n := range 5 {
		wantChanged(t, full(5), n, done(l...), page(5, nil, nil, row("c"), row("d")))
	}
	wantChanged(t, full(5), 17, done(l...), with(full(5), 2, nil))
	wantSame(t, full(5), 5, done(l...))
	wantPages(t, done(l...), 0, 1, 2, 3, 4, 17)
}

func TestDoneLooksAtNothingElse(t *testing.T) {
	e := crowded(api.EntDone, 4)
	wantChanged(t, full(5), 4, e, with(with(full(5), 2, nil), 3, nil))
	for i := range e.Moves {
		e.Moves[i].From.Page = 9
	}
	wantSame(t, full(5), 4, e)
	wantChanged(t, full(5), 9, e, with(with(full(5), 2, nil), 3, nil))
}

func TestOtherKindsChangeNothing(t *testing.T) {
	for _, kind := range still {
		for _, n := range []int{0, 1, 4, 31, 32, -1, math.MinInt, math.MaxInt} {
			wantSame(t, full(5), n, crowded(kind, n))
			wantSame(t, full(5), 0, api.Entry{Kind: kind})
		}
		wantPages(t, crowded(kind, 4))
		wantPages(t, api.Entry{Kind: kind})
	}
	for _, kind := range kinds[:3] {
		q, is := redo.Apply(full(5), 0, api.Entry{Kind: kind}, 6)
		if !is || q.LSN != 6 {
			t.Errorf("Apply of kind %d: %v, %t", kind, q, is)
		}
	}
}

// P16.1: what is left out, and numbers at their ends.

func TestCellsThatDoNotExistAreLeftOut(t *testing.T) {
	for _, c := range noCells {
		for n := -1; n <= api.MaxPages; n++ {
			wantChanged(t, full(5), n, set(rid(n, c), row("x")), full(5))
			wantChanged(t, full(5), n, back(rid(n, c), row("x")), full(5))
			wantChanged(t, full(5), n, done(rid(n, c)), full(5))
			wantChanged(t, full(5), n, done(rid(n, c), rid(n, 1), rid(n, c), rid(n, 3), rid(n, c)), with(with(full(5), 1, nil), 3, nil))
		}
	}
}

func TestPagesAreAnyNumbers(t *testing.T) {
	for _, n := range noPages {
		wantChanged(t, full(5), n, set(rid(n, 2), row("x")), with(full(5), 2, row("x")))
		wantChanged(t, full(5), n, back(rid(n, 2), nil), with(full(5), 2, nil))
		wantChanged(t, full(5), n, done(rid(3, 1), rid(n, 2), rid(3, 0)), with(full(5), 2, nil))
		wantChanged(t, full(5), n, move(rid(n, 2), rid(3, 1), row("x")), with(full(5), 2, stub(3, 1)))
		wantChanged(t, full(5), n, move(rid(3, 1), rid(n, 2), row("x")), with(full(5), 2, row("x")))
		for m := range api.MaxPages {
			wantSame(t, full(5), m, set(rid(n, 2), row("x")))
			wantSame(t, full(5), n, set(rid(m, 2), row("x")))
			wantSame(t, full(5), n, move(rid(m, 2), rid(m, 1), row("x")))
			wantSame(t, full(5), n, done(rid(m, 2)))
		}
	}
}

func TestNumbersAtTheirEnds(t *testing.T) {
	numbers := []int{math.MinInt, math.MinInt + 1, -1 << 32, -2, -1, 0, 1, 2, 1<<31 - 1, 1 << 31, 1 << 32, math.MaxInt - 1, math.MaxInt}
	for _, has := range numbers {
		for _, lsn := range numbers {
			for _, e := range []api.Entry{set(rid(2, 1), row("x")), back(rid(2, 1), row("x")), move(rid(3, 1), rid(2, 1), row("x"))} {
				if lsn > has {
					wantApply(t, full(has), 2, e, lsn, with(full(lsn), 1, row("x")), true)
				} else {
					wantApply(t, full(has), 2, e, lsn, full(has), false)
				}
			}
		}
	}
}

func TestTheNumberIsRaisedEvenIfNoByteChanges(t *testing.T) {
	p := full(5)
	wantChanged(t, p, 2, set(rid(2, 0), row("a")), p)
	wantChanged(t, p, 2, move(rid(2, 1), rid(1, 2), row("x")), p)
	wantChanged(t, page(5), 2, done(rid(2, 0), rid(2, 1)), page(5))
	wantChanged(t, page(5), 2, back(rid(2, 3), nil), page(5))
}

func TestOtherCellsStayAsTheyAre(t *testing.T) {
	p := page(5, []byte{1}, bytes.Repeat([]byte{3}, 300), make([]byte, api.CellSize), []byte{})
	for c := range api.Cells {
		wantChanged(t, p, 2, set(rid(2, c), row("x")), with(p, c, row("x")))
		wantChanged(t, p, 2, done(rid(2, c)), with(p, c, nil))
		wantSame(t, p, 3, set(rid(2, c), row("x")))
	}
}

// TestEverySmallCase holds Apply and Pages against a plain list of who receives what, over every entry of a few places.
func TestEverySmallCase(t *testing.T) {
	var places []api.RID
	for _, n := range []int{-1, 0, 1, api.MaxPages} {
		for c := -1; c <= api.Cells; c++ {
			places = append(places, rid(n, c))
		}
	}
	for kind := -1; kind <= 12; kind++ {
		for _, a := range places {
			for _, b := range places {
				e := api.Entry{Kind: kind, At: a, To: b, Old: row("old"), New: row("new"), Moves: []api.Move{{From: b, To: a}, {From: a, To: b}}}
				for n := -2; n <= 2; n++ {
					wantAsPlain(t, full(5), n, e, 6)
				}
				wantAsPlain(t, full(5), api.MaxPages, e, 6)
				wantPages(t, e, plainPages(e)...)
			}
		}
	}
}

func wantAsPlain(t *testing.T, p api.Page, n int, e api.Entry, lsn int) {
	t.Helper()
	asked, changed := plainApply(p, n, e, lsn)
	wantApply(t, p, n, e, lsn, asked, changed)
}

// P16.1: Pages.

func TestPagesOfEveryKind(t *testing.T) {
	for n := range api.MaxPages {
		for _, c := range []int{0, 3, 4, -1, math.MinInt, math.MaxInt} {
			wantPages(t, set(rid(n, c), nil), n)
			wantPages(t, back(rid(n, c), row("x")), n)
			wantPages(t, move(rid(n, c), rid(n, 1), row("x")), n)
			wantPages(t, move(rid(n, 1), rid(n, c), row("x")), n)
			wantPages(t, done(rid(n, c)), n)
			wantPages(t, done(rid(n, c), rid(n, 1), rid(n, c)), n)
		}
		for m := range n {
			wantPages(t, move(rid(n, 0), rid(m, 9), nil), m, n)
			wantPages(t, move(rid(m, 9), rid(n, 0), nil), m, n)
			wantPages(t, done(rid(n, 0), rid(m, 1), rid(n, 2), rid(m, 1)), m, n)
			wantPages(t, done(rid(m, 0), rid(n, 1), rid(m, 0)), m, n)
		}
		for _, kind := range kinds {
			wantPages(t, crowded(kind, n), n)
		}
	}
	wantPages(t, done())
	wantPages(t, api.Entry{Kind: api.EntSet}, 0)
	wantPages(t, api.Entry{Kind: api.EntMove}, 0)
}

func TestPagesLeavesOutWhatIsNone(t *testing.T) {
	for _, n := range noPages {
		for _, kind := range kinds {
			wantPages(t, crowded(kind, n))
		}
		wantPages(t, move(rid(n, 0), rid(31, 1), nil), 31)
		wantPages(t, move(rid(31, 0), rid(n, 1), nil), 31)
		wantPages(t, done(rid(n, 0), rid(31, 1), rid(n, 0), rid(0, 1), rid(n, 1)), 0, 31)
	}
}

func TestPagesOfAllPages(t *testing.T) {
	var l []api.RID
	var asked []int
	for n := range api.MaxPages {
		l = append(l, rid(api.MaxPages-1-n, n%api.Cells))
		asked = append(asked, n)
	}
	wantPages(t, done(l...), asked...)
	wantPages(t, done(slices.Concat(l, l)...), asked...)
	slices.Reverse(l)
	wantPages(t, done(l...), asked...)
}

// Pages tells of exactly those pages that Apply changes.
func TestPagesAreThoseThatApplyChanges(t *testing.T) {
	for _, kind := range slices.Concat(kinds, still) {
		e := crowded(kind, 7)
		e.To.Page, e.Moves[1].From.Page = 3, 12
		pages := redo.Pages(e)
		for n := range api.MaxPages {
			if _, is := redo.Apply(full(5), n, e, 6); is != slices.Contains(pages, n) {
				t.Errorf("kind %d, page %d: %t; Pages: %v", kind, n, is, pages)
			}
		}
	}
}

func TestPagesIsTheCallersOwn(t *testing.T) {
	e := done(rid(9, 0), rid(2, 0))
	l := redo.Pages(e)
	for i := range l[:cap(l)] {
		l[:cap(l)][i] = -7
	}
	wantPages(t, e, 2, 9)
	wantPages(t, set(rid(9, 0), nil), 9)
}

// R3: what is handed in stays as it is, and what is handed back is the caller's own.

// room is behind each slice that is handed in: nobody may touch it.
const room = "behind it"

func roomy(b []byte) []byte {
	return append(bytes.Clone(b), room...)[:len(b)]
}

func roomyPage(p api.Page) api.Page {
	for i, c := range p.Cells {
		p.Cells[i] = roomy(c)
	}
	return p
}

func roomyEntry(e api.Entry) api.Entry {
	e.Old, e.New = roomy(e.Old), roomy(e.New)
	e.Moves = append(slices.Clone(e.Moves), api.Move{From: rid(4, 1)}, api.Move{From: rid(4, 3)})[:len(e.Moves)]
	return e
}

// keep returns a copy of what is in the slices of a page and an entry, up to their capacity.
func keep(p api.Page, e api.Entry) (all []byte, moves []api.Move) {
	for _, c := range p.Cells {
		all = append(append(all, c[:cap(c)]...), '|')
	}
	all = slices.Concat(all, e.Old[:cap(e.Old)], []byte("|"), e.New[:cap(e.New)])
	return all, slices.Clone(e.Moves[:cap(e.Moves)])
}

func TestApplyTurnsNothingAndSharesNothing(t *testing.T) {
	pages := []api.Page{full(5), page(5), page(5, row("a"), nil, []byte{7}, nil)}
	for _, kind := range []int{api.EntSet, api.EntBack, api.EntMove, api.EntDone, api.EntCommit, 0} {
		for _, lsn := range []int{5, 6} {
			for _, n := range []int{4, 5} {
				for _, b := range [][]byte{row("new"), nil, {7}} {
					for _, p := range pages {
						e := crowded(kind, 4)
						e.New = b
						wantOwn(t, p, n, e, lsn)
					}
				}
			}
		}
	}
}

func wantOwn(t *testing.T, p api.Page, n int, e api.Entry, lsn int) {
	t.Helper()
	asked, _ := redo.Apply(p, n, e, lsn)
	p, e = roomyPage(p), roomyEntry(e)
	bare, whole := p, e
	all, moves := keep(p, e)
	same := func(when string) {
		t.Helper()
		a, m := keep(p, e)
		if !bytes.Equal(a, all) || !slices.Equal(m, moves) || !entry.Same(e, whole) || !equal(p, bare) {
			t.Errorf("%s, kind %d, page %d, number %d: what was handed in has changed", when, e.Kind, n, lsn)
		}
	}
	q, _ := redo.Apply(p, n, e, lsn)
	same("behind Apply")
	spoil(t, &q)
	same("behind changes of the answer")
	r, _ := redo.Apply(p, n, e, lsn)
	if !equal(r, asked) {
		t.Errorf("the second answer: %v; asked for: %v", r, asked)
	}
	for i := range p.Cells {
		change(p.Cells[i])
	}
	change(e.New)
	if !equal(r, asked) {
		t.Errorf("behind changes of what was handed in: %v; asked for: %v", r, asked)
	}
}

// change turns every byte of b, and those behind it.
func change(b []byte) {
	b = b[:cap(b)]
	for i := range b {
		b[i] ^= 0xff
	}
}

// spoil turns the bytes of each cell, and holds that no other cell of the page has changed with it.
func spoil(t *testing.T, p *api.Page) {
	t.Helper()
	for i := range p.Cells {
		before := *p
		for j, c := range p.Cells {
			before.Cells[j] = bytes.Clone(c)
		}
		change(p.Cells[i])
		for j := range p.Cells {
			if j != i && !bytes.Equal(p.Cells[j], before.Cells[j]) {
				t.Errorf("cells %d and %d share memory", i, j)
			}
		}
	}
}

// TestCellsThatShareMemory hands in the same bytes for all cells and for New.
func TestCellsThatShareMemory(t *testing.T) {
	b := row("a")
	for _, e := range []api.Entry{set(rid(4, 1), b), back(rid(4, 1), b), move(rid(4, 0), rid(4, 1), b), done(rid(4, 0)), {}} {
		for _, lsn := range []int{5, 6} {
			q, _ := redo.Apply(page(5, b, b, b, b), 4, e, lsn)
			spoil(t, &q)
		}
	}
	if !bytes.Equal(b, row("a")) {
		t.Errorf("what was handed in has changed: %v", b)
	}
}

// An answer hangs on what is handed in only.
func TestTheSameAgain(t *testing.T) {
	for _, kind := range slices.Concat(kinds, still) {
		for n := 3; n <= 5; n++ {
			a, is := redo.Apply(full(5), n, crowded(kind, 4), 6)
			redo.Apply(page(1), 4, set(rid(4, 0), row("z")), 9)
			redo.Pages(done(rid(1, 1)))
			b, again := redo.Apply(full(5), n, crowded(kind, 4), 6)
			if is != again || !reflect.DeepEqual(a, b) {
				t.Errorf("kind %d, page %d: %v, %t, and then %v, %t", kind, n, a, is, b, again)
			}
		}
	}
}
