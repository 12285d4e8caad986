package leaf_test

import (
	"bytes"
	"math"
	"slices"
	"testing"

	"whim/api"
	"whim/cell"
	"whim/leaf"
	"whim/sheet"
)

const (
	cellsLen = api.Cells * api.CellSize // bytes of the cells of a page
	bodyLen  = 2 * (api.Tile - 4)       // bytes of a page in its two tiles, behind the numbers
	most     = 1<<31 - 1                // the greatest LSN
)

// row is the cell of a row of this key.
func row(key string) []byte {
	b, _ := cell.Row(api.Row{Key: key, Sec: "s" + key, Val: "v"})
	return b
}

// stub is the cell of a stub that points to this place.
func stub(page, at int) []byte {
	b, _ := cell.Stub(api.RID{Page: page, Cell: at})
	return b
}

func zeros(n int) []byte { return make([]byte, n) }

func page(lsn int, cells ...[]byte) api.Page {
	p := api.Page{LSN: lsn}
	copy(p.Cells[:], cells)
	return p
}

// full is a page with other bytes in each of its cells.
func full(lsn int) api.Page {
	return page(lsn, row("a"), stub(1, 2), row("c"), stub(31, 3))
}

// fullBody is the bytes of a full page's cells.
func fullBody() []byte {
	return slices.Concat(row("a"), stub(1, 2), row("c"), stub(31, 3))
}

// withCell is p with another cell at a place.
func withCell(p api.Page, at int, c []byte) api.Page {
	p.Cells[at] = c
	return p
}

func clonePage(p api.Page) api.Page {
	for i, c := range p.Cells {
		p.Cells[i] = bytes.Clone(c)
	}
	return p
}

// equal compares without package leaf: no bytes and zeros are different here.
func equal(a, b api.Page) bool {
	for i := range a.Cells {
		if !bytes.Equal(a.Cells[i], b.Cells[i]) {
			return false
		}
	}
	return a.LSN == b.LSN
}

// tiles are those of these bytes behind a number.
func tiles(t *testing.T, lsn int, body []byte) (a, b []byte) {
	t.Helper()
	a, b, e := sheet.Put(lsn, body)
	if e != api.OK {
		t.Fatalf("sheet.Put(%d, %v): %d", lsn, body, e)
	}
	return a, b
}

func wantPut(t *testing.T, p api.Page, body []byte) (a, b []byte) {
	t.Helper()
	a, b, e := leaf.Put(p)
	x, y := tiles(t, p.LSN, body)
	if e != api.OK || !bytes.Equal(a, x) || !bytes.Equal(b, y) {
		t.Fatalf("Put(%v): %v, %v, %d; asked for: %v, %v", p, a, b, e, x, y)
	}
	return a, b
}

func wantNoPut(t *testing.T, p api.Page) {
	t.Helper()
	if a, b, e := leaf.Put(p); e != api.ErrBad || a != nil || b != nil {
		t.Errorf("Put(%v): %v, %v, %d", p, a, b, e)
	}
}

func wantTake(t *testing.T, a, b []byte, asked api.Page) api.Page {
	t.Helper()
	p, e := leaf.Take(a, b)
	if e != api.OK || !equal(p, asked) {
		t.Fatalf("Take(%v, %v): %v, %d; asked for: %v", a, b, p, e, asked)
	}
	return p
}

func wantNoTake(t *testing.T, a, b []byte, asked api.Errno) {
	t.Helper()
	if p, e := leaf.Take(a, b); e != asked || !isZero(p) {
		t.Errorf("Take(%v, %v): %v, %d; asked for: %d", a, b, p, e, asked)
	}
}

func isZero(p api.Page) bool {
	for _, c := range p.Cells {
		if c != nil {
			return false
		}
	}
	return p.LSN == 0
}

func wantSet(t *testing.T, p api.Page, at int, b []byte, lsn int, asked api.Page) {
	t.Helper()
	if q := leaf.Set(p, at, b, lsn); !equal(q, asked) {
		t.Errorf("Set(%v, %d, %v, %d): %v; asked for: %v", p, at, b, lsn, q, asked)
	}
}

func wantSame(t *testing.T, a, b api.Page, asked bool) {
	t.Helper()
	if leaf.Same(a, b) != asked || leaf.Same(b, a) != asked {
		t.Errorf("Same(%v, %v): %t, and the other way round %t; asked for: %t", a, b, leaf.Same(a, b), leaf.Same(b, a), asked)
	}
}

// P4.1 Put

func TestPutLaysTheCellsOneBehindTheOther(t *testing.T) {
	wantPut(t, full(258), fullBody())
	wantPut(t, page(258, nil, row("b"), nil, row("d")), slices.Concat(zeros(26), row("b"), zeros(26), row("d")))
	for at := range api.Cells {
		for _, empty := range [][]byte{nil, {}, row("x")[:0], zeros(api.CellSize)} {
			body := fullBody()
			clear(body[at*26 : at*26+26])
			wantPut(t, withCell(full(7), at, empty), body)
			wantPut(t, page(7, empty, empty, empty, empty), nil)
		}
	}
}

func TestPutTakesCellsOfAnyBytes(t *testing.T) {
	for at := range api.Cells {
		for c := range 256 {
			whole := bytes.Repeat([]byte{byte(c)}, api.CellSize)
			wantPut(t, withCell(page(1), at, whole), append(zeros(at*26), whole...))
		}
	}
}

func TestPutRefusesCellsOfOtherLengths(t *testing.T) {
	for at := range api.Cells {
		for n := range 3 * api.CellSize {
			if n == 0 || n == api.CellSize {
				continue
			}
			wantNoPut(t, withCell(page(1), at, zeros(n)))
			wantNoPut(t, withCell(full(1), at, bytes.Repeat([]byte{9}, n)))
			wantNoPut(t, withCell(page(-1), at, zeros(n)))
		}
		wantNoPut(t, withCell(full(1), at, zeros(256)))
		wantNoPut(t, withCell(full(1), at, zeros(256+api.CellSize)))
	}
	// What is too short in one cell does not make up for what is too long in the next one.
	wantNoPut(t, page(1, zeros(25), zeros(27)))
}

func TestPutOfAllNumbers(t *testing.T) {
	for _, lsn := range []int{0, 1, 255, 256, 1 << 16, most - 1, most} {
		wantPut(t, page(lsn), nil)
		a, b := wantPut(t, full(lsn), fullBody())
		wantTake(t, a, b, full(lsn))
	}
	for _, lsn := range []int{-1, -2, math.MinInt32, math.MinInt, most + 1, most + 2, 1 << 32, math.MaxInt} {
		wantNoPut(t, page(lsn))
		wantNoPut(t, full(lsn))
	}
}

// P4.1 Take

func TestTakeOfZerosIsAPageOfEmptyCells(t *testing.T) {
	p := wantTake(t, zeros(api.Tile), zeros(api.Tile), api.Page{})
	if !leaf.Same(p, api.Page{}) {
		t.Errorf("Take: %v", p)
	}
}

func TestTakeReturnsWhatPutWasGiven(t *testing.T) {
	kinds := [][]byte{nil, row("a"), row("12345678"), stub(0, 0), stub(31, 3), zeros(api.CellSize)}
	asked := slices.Clone(kinds)
	asked[5] = nil
	for i := range kinds {
		for j := range kinds {
			for k := range kinds {
				for l := range kinds {
					a, b, e := leaf.Put(page(77, kinds[i], kinds[j], kinds[k], kinds[l]))
					if e != api.OK {
						t.Fatalf("Put: %d", e)
					}
					p := wantTake(t, a, b, page(77, asked[i], asked[j], asked[k], asked[l]))
					wantSame(t, p, page(77, kinds[i], kinds[j], kinds[k], kinds[l]), true)
				}
			}
		}
	}
}

func TestTakeRefusesBytesBehindTheCells(t *testing.T) {
	cells := fullBody()
	for at := cellsLen; at < bodyLen; at++ {
		for _, c := range []byte{1, 2, 0x80, 0xff} {
			for _, cells := range [][]byte{cells, zeros(cellsLen)} {
				body := append(slices.Clone(cells), zeros(bodyLen-cellsLen)...)
				body[at] = c
				a, b := tiles(t, 5, body)
				wantNoTake(t, a, b, api.ErrForm)
			}
		}
	}
	// The last byte of the last cell is not behind it.
	a, b := tiles(t, 5, append(zeros(78), []byte("\x01\x0812345678\x06abcdef\x08ABCDEFGH")...))
	wantTake(t, a, b, page(5, nil, nil, nil, []byte("\x01\x0812345678\x06abcdef\x08ABCDEFGH")))
}

func TestTakeRefusesCellsThatAreNone(t *testing.T) {
	noKey, longKey, behind := row("a"), row("a"), row("a")
	noKey[1], noKey[2], longKey[1], behind[9] = 0, 0, 9, 1
	noPage, noCell, tail := stub(1, 1), stub(1, 1), stub(1, 1)
	noPage[1], noCell[2], tail[25] = api.MaxPages, api.Cells, 1
	odd, late := zeros(api.CellSize), zeros(api.CellSize)
	odd[0], late[25] = 3, 1
	for _, c := range [][]byte{noKey, longKey, behind, noPage, noCell, tail, odd, late} {
		if _, _, _, e := cell.Read(c); e != api.ErrForm {
			t.Fatalf("cell.Read(%v): %d", c, e)
		}
		for at := range api.Cells {
			for _, p := range []api.Page{page(5), full(5)} {
				a, b, e := leaf.Put(withCell(p, at, c))
				if e != api.OK {
					t.Fatalf("Put: %d", e)
				}
				wantNoTake(t, a, b, api.ErrForm)
			}
		}
	}
}

func TestTakeTellsTheErrorsOfSheet(t *testing.T) {
	a, b := wantPut(t, full(5), fullBody())
	for _, n := range []int{0, 1, 4, api.Tile - 1} {
		wantNoTake(t, a[:n], b, api.ErrBad)
		wantNoTake(t, a, b[:n], api.ErrBad)
		wantNoTake(t, a[:n], b[:n], api.ErrBad)
	}
	wantNoTake(t, nil, nil, api.ErrBad)
	wantNoTake(t, append(slices.Clone(a), 0), b, api.ErrBad)
	wantNoTake(t, a, append(slices.Clone(b), 0), api.ErrBad)
	_, d := wantPut(t, full(6), fullBody())
	wantNoTake(t, a, d, api.ErrTorn)
	wantNoTake(t, d, b, api.ErrTorn)
	high := append([]byte{0x80}, zeros(api.Tile-1)...)
	wantNoTake(t, high, high, api.ErrForm)
}

func TestTakeNamesTheErrorsOfSheetFirst(t *testing.T) {
	// Both bodies have a cell that is none, and bytes behind the cells.
	body := bytes.Repeat([]byte{9}, bodyLen)
	a, b := tiles(t, 5, body)
	_, d := tiles(t, 6, body)
	wantNoTake(t, a, b, api.ErrForm)
	wantNoTake(t, a, d, api.ErrTorn)
	wantNoTake(t, a[1:], d, api.ErrBad)
	wantNoTake(t, a, d[1:], api.ErrBad)
}

// P4.2 Set

func TestSetNeedsALaterNumber(t *testing.T) {
	for at := range api.Cells {
		for _, b := range [][]byte{row("z"), stub(4, 1), nil, {}, zeros(api.CellSize)} {
			for _, lsn := range []int{math.MinInt, -1, 0, 1, 8, 9} {
				wantSet(t, full(9), at, b, lsn, full(9))
			}
			for _, lsn := range []int{10, 11, 256 + 9, most, most + 1, math.MaxInt} {
				p := withCell(full(9), at, b)
				p.LSN = lsn
				wantSet(t, full(9), at, b, lsn, p)
			}
		}
	}
	wantSet(t, page(0), 0, row("a"), 0, page(0))
	wantSet(t, page(0), 0, row("a"), 1, page(1, row("a")))
	wantSet(t, page(-1), 0, row("a"), 0, page(0, row("a")))
	wantSet(t, page(math.MaxInt), 0, row("a"), math.MaxInt, page(math.MaxInt))
}

func TestSetNeedsACellThatIsThere(t *testing.T) {
	for _, at := range []int{-1, -2, -api.Cells, api.Cells, api.Cells + 1, 256, 1 << 32, math.MinInt, math.MaxInt} {
		for _, lsn := range []int{8, 9, 10} {
			wantSet(t, full(9), at, row("z"), lsn, full(9))
			wantSet(t, full(9), at, nil, lsn, full(9))
		}
	}
	wantSet(t, full(9), 0, row("z"), 10, page(10, row("z"), stub(1, 2), row("c"), stub(31, 3)))
	wantSet(t, full(9), api.Cells-1, row("z"), 10, page(10, row("a"), stub(1, 2), row("c"), row("z")))
}

func TestSetOfNoBytesEmptiesACell(t *testing.T) {
	for at := range api.Cells {
		for _, b := range [][]byte{nil, {}, row("z")[:0]} {
			if q := leaf.Set(full(9), at, b, 10); q.LSN != 10 || len(q.Cells[at]) != 0 {
				t.Errorf("Set: %v", q)
			}
		}
	}
}

// P4.2 Same

func TestSameOfEqualPages(t *testing.T) {
	for _, p := range []api.Page{{}, full(0), full(9), page(-1), page(4, zeros(3), []byte{7}), page(most, nil, row("a"))} {
		wantSame(t, p, p, true)
		wantSame(t, p, clonePage(p), true)
	}
}

func TestSameOfEmptyCells(t *testing.T) {
	empty := [][]byte{nil, {}, zeros(api.CellSize)}
	for at := range api.Cells {
		for _, a := range empty {
			for _, b := range empty {
				wantSame(t, withCell(full(3), at, a), withCell(full(3), at, b), true)
				wantSame(t, withCell(page(3), at, a), withCell(page(3), at, b), true)
				wantSame(t, withCell(page(3), at, a), withCell(page(4), at, b), false)
			}
			wantSame(t, withCell(full(3), at, a), full(3), false)
			// Zeros of another length are none of an empty cell.
			for _, n := range []int{1, api.CellSize - 1, api.CellSize + 1} {
				wantSame(t, withCell(full(3), at, a), withCell(full(3), at, zeros(n)), false)
			}
		}
	}
	wantSame(t, page(1, zeros(25)), page(1, zeros(27)), false)
}

func TestSameSeesEachByte(t *testing.T) {
	for at := range api.Cells {
		for i := range api.CellSize {
			for _, p := range []api.Page{full(3), withCell(full(3), at, zeros(api.CellSize))} {
				q := clonePage(p)
				q.Cells[at][i] ^= 0x10
				wantSame(t, p, q, false)
			}
		}
		c := full(3).Cells[at]
		wantSame(t, full(3), withCell(full(3), at, c[:25]), false)
		wantSame(t, full(3), withCell(full(3), at, append(slices.Clone(c), 0)), false)
	}
}

func TestSameSeesTheNumber(t *testing.T) {
	for _, lsn := range []int{-1, 0, 2, 4, 3 + 256, 3 + 1<<16, 3 + 1<<32, most, math.MaxInt, math.MinInt} {
		wantSame(t, full(3), full(lsn), false)
		wantSame(t, page(3), page(lsn), false)
	}
}

func TestSameSeesWhereACellIs(t *testing.T) {
	wantSame(t, page(1, row("a"), row("b")), page(1, row("b"), row("a")), false)
	wantSame(t, page(1, row("a")), page(1, nil, row("a")), false)
}

// What follows

type change struct {
	at, lsn int
	b       []byte
}

func applied(p api.Page, changes []change) api.Page {
	for _, c := range changes {
		p = leaf.Set(p, c.at, c.b, c.lsn)
	}
	return p
}

func TestTheSameSetsAgainGiveTheSamePage(t *testing.T) {
	changes := []change{
		{1, 10, row("a")}, {0, 11, row("b")}, {1, 12, nil}, {4, 13, row("c")}, {3, 14, stub(2, 2)},
		{-1, 15, nil}, {0, 16, zeros(api.CellSize)}, {3, 17, row("d")}, {2, 17, row("e")}, {2, 18, row("f")},
	}
	for _, p := range []api.Page{page(0), full(9), full(12), full(17), full(18)} {
		once := applied(p, changes)
		for n := range len(changes) + 1 {
			// A run that is cut off after n Sets, and begun again.
			wantSame(t, applied(applied(p, changes[:n]), changes), once, true)
		}
		wantSame(t, applied(once, changes), once, true)
	}
	wantSame(t, applied(page(0), changes), page(18, nil, nil, row("f"), row("d")), true)
}

// R3

// roomy is the page with bytes of another kind in the unused capacity of its cells.
func roomy(p api.Page) (q api.Page, all [][]byte) {
	for i, c := range p.Cells {
		all = append(all, append(bytes.Clone(c), "more bytes"...))
		p.Cells[i] = all[i][:len(c)]
	}
	return p, all
}

func spoil(lists ...[]byte) {
	for _, b := range lists {
		b = b[:cap(b)]
		for i := range b {
			b[i] ^= 0xa5
		}
	}
}

func TestPutKeepsNothingAndChangesNothing(t *testing.T) {
	for _, given := range []api.Page{full(5), page(5, row("a"), nil, []byte{}, zeros(26))} {
		p, all := roomy(given)
		before := slices.Concat(all...)
		a, b, e := leaf.Put(p)
		if e != api.OK || !bytes.Equal(slices.Concat(all...), before) {
			t.Fatalf("Put changed its argument: %v, %d", all, e)
		}
		keepA, keepB := slices.Clone(a), slices.Clone(b)
		spoil(all...)
		if !bytes.Equal(a, keepA) || !bytes.Equal(b, keepB) {
			t.Errorf("Put's tiles changed with the page: %v, %v", a, b)
		}
		spoil(all...)
		spoil(a)
		if !bytes.Equal(b, keepB) || !equal(p, given) || !bytes.Equal(slices.Concat(all...), before) {
			t.Errorf("the page or the second tile changed with the first one: %v, %v", p, b)
		}
		spoil(b)
		if !equal(p, given) || !bytes.Equal(slices.Concat(all...), before) {
			t.Errorf("the page changed with the second tile: %v", p)
		}
	}
}

func TestTakeKeepsNothingAndChangesNothing(t *testing.T) {
	for at := range api.Cells {
		a, b := wantPut(t, full(5), fullBody())
		long := slices.Concat(a, b, []byte("more bytes"))
		before := slices.Clone(long)
		p := wantTake(t, long[:api.Tile], long[api.Tile:2*api.Tile], full(5))
		if !bytes.Equal(long, before) {
			t.Fatalf("Take changed its arguments: %v", long)
		}
		spoil(long)
		if !equal(p, full(5)) {
			t.Errorf("Take's page changed with the tiles: %v", p)
		}
		spoil(long)
		spoil(p.Cells[at])
		if !bytes.Equal(long, before) {
			t.Errorf("the tiles changed with Take's page: %v", long)
		}
		if p.Cells[at] = row("z"); !equal(p, withCell(full(5), at, row("z"))) {
			t.Errorf("cells of Take's page share memory: %v", p)
		}
	}
}

func TestSetKeepsNothingAndChangesNothing(t *testing.T) {
	for _, at := range []int{-1, 0, 1, 2, 3, 4} {
		for _, lsn := range []int{9, 10} {
			p, all := roomy(full(9))
			b := append(row("z"), "more bytes"...)
			all = append(all, b)
			before := slices.Concat(all...)
			q := leaf.Set(p, at, b[:api.CellSize], lsn)
			if !equal(p, full(9)) || !bytes.Equal(slices.Concat(all...), before) {
				t.Fatalf("Set changed its arguments: %v, %v", p, all)
			}
			keep := clonePage(q)
			spoil(all...)
			if !equal(q, keep) {
				t.Errorf("Set's page changed with its arguments: %v", q)
			}
			spoil(all...)
			for i := range q.Cells {
				spoil(q.Cells[i])
				if !bytes.Equal(slices.Concat(all...), before) {
					t.Errorf("the arguments changed with Set's page: %v", all)
				}
				if q.Cells[i] = keep.Cells[i]; !equal(q, keep) {
					t.Errorf("cells of Set's page share memory: %v", q)
				}
			}
		}
	}
}

func TestSetOfACellOfThePageItself(t *testing.T) {
	p := full(9)
	q := leaf.Set(p, 1, p.Cells[0], 10)
	spoil(q.Cells[0])
	if !bytes.Equal(q.Cells[1], row("a")) || !equal(p, full(9)) {
		t.Errorf("cells share memory: %v, %v", p, q)
	}
}

func TestSameChangesNothing(t *testing.T) {
	p, all := roomy(full(9))
	q, more := roomy(page(9, row("a"), nil, zeros(26)))
	before := slices.Concat(slices.Concat(all...), slices.Concat(more...))
	wantSame(t, p, q, false)
	wantSame(t, p, p, true)
	if !bytes.Equal(slices.Concat(slices.Concat(all...), slices.Concat(more...)), before) {
		t.Errorf("Same changed its arguments: %v, %v", all, more)
	}
}
