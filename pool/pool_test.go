package pool_test

import (
	"bytes"
	"math"
	"slices"
	"strconv"
	"strings"
	"testing"

	"whim/api"
	"whim/cell"
	"whim/leaf"
	"whim/pool"
	"whim/sheet"
	"whim/tile"
	"whim/trail"
)

// The face, as the chapter lists it.
var (
	_ func(d *tile.Disk, t *trail.Trail, first, pages, frames int) *pool.Pool = pool.New
	_ func(p *pool.Pool, n int) (api.Page, api.Errno)                         = (*pool.Pool).Page
	_ func(p *pool.Pool, n, at int, b []byte, lsn int) api.Errno              = (*pool.Pool).Set
	_ func(p *pool.Pool, n int, g api.Page, rec int) api.Errno                = (*pool.Pool).Lay
	_ func(p *pool.Pool, n int) api.Errno                                     = (*pool.Pool).Flush
	_ func(p *pool.Pool) []api.Dirty                                          = (*pool.Pool).Dirty
	_ func(p *pool.Pool) int                                                  = (*pool.Pool).Pages
)

const (
	first    = 3  // the tile in which the pages of these tests begin
	logTiles = 20 // tiles of a log, which are behind the pages and one more tile
	most     = 1<<31 - 1
)

func want[T comparable](t *testing.T, what string, got, asked T) {
	t.Helper()
	if got != asked {
		t.Errorf("%s: %v, not %v", what, got, asked)
	}
}

// row is the cell of a row of this key.
func row(key string) []byte {
	b, _ := cell.Row(api.Row{Key: key, Sec: "s" + key, Val: "v"})
	return b
}

func page(lsn int, cells ...[]byte) api.Page {
	g := api.Page{LSN: lsn}
	copy(g.Cells[:], cells)
	return g
}

// equal compares without package leaf: no bytes and zeros are different here.
func equal(a, b api.Page) bool {
	for i := range a.Cells {
		if !bytes.Equal(a.Cells[i], b.Cells[i]) {
			return false
		}
	}
	return a.LSN == b.LSN
}

func isZero(g api.Page) bool {
	for _, c := range g.Cells {
		if c != nil {
			return false
		}
	}
	return g.LSN == 0
}

// set is an entry that changes a cell.
func set(n, at int, b []byte) api.Entry {
	return api.Entry{Kind: api.EntSet, Txn: 1, At: api.RID{Page: n, Cell: at}, New: b}
}

// world is a pool with what is below it. The log is on the same disk.
type world struct {
	d *tile.Disk
	g *trail.Trail
	p *pool.Pool
}

// made is a new pool whose pages are zeros, on a disk that has other tiles around them.
func made(t *testing.T, pages, frames int) *world {
	t.Helper()
	behind := first + 2*pages
	d := tile.New(behind + 1 + logTiles)
	for _, at := range []int{0, 1, 2, behind} {
		want(t, "Write", d.Write(at, foreign(at)), api.OK)
	}
	want(t, "Sync", d.Sync(), api.OK)
	g, _, e := trail.Open(d, behind+1, logTiles)
	want(t, "Open", e, api.OK)
	return &world{d: d, g: g, p: pool.New(d, g, first, pages, frames)}
}

// foreign is what the tiles of others have.
func foreign(at int) []byte { return bytes.Repeat([]byte{byte('a' + at%26)}, api.Tile) }

// wantForeign sees that no tile of others was written.
func (w *world) wantForeign(t *testing.T) {
	t.Helper()
	for _, at := range []int{0, 1, 2, first + 2*w.p.Pages()} {
		if b, e := w.d.Read(at); e != api.OK || !bytes.Equal(b, foreign(at)) {
			t.Errorf("tile %d has %x, %d", at, b, e)
		}
	}
}

// put makes a and b what the disk has of a page, whatever the pool does.
func (w *world) put(t *testing.T, n int, a, b []byte) {
	t.Helper()
	want(t, "Write", w.d.Write(first+2*n, a), api.OK)
	want(t, "Write", w.d.Write(first+2*n+1, b), api.OK)
	want(t, "Sync", w.d.Sync(), api.OK)
}

func (w *world) store(t *testing.T, n int, g api.Page) {
	t.Helper()
	a, b, e := leaf.Put(g)
	want(t, "leaf.Put", e, api.OK)
	w.put(t, n, a, b)
}

// tear gives a page halves of two pages.
func (w *world) tear(t *testing.T, n int) {
	t.Helper()
	a, _, _ := leaf.Put(page(7, row("old")))
	_, b, _ := leaf.Put(page(8, row("new")))
	w.put(t, n, a, b)
}

// spoil gives a page a cell that is none.
func (w *world) spoil(t *testing.T, n int) {
	t.Helper()
	a, b, e := sheet.Put(7, []byte{9})
	want(t, "sheet.Put", e, api.OK)
	w.put(t, n, a, b)
}

// append adds entries in memory.
func (w *world) append(t *testing.T, entries int) {
	t.Helper()
	for range entries {
		_, e := w.g.Append(set(0, 0, nil))
		want(t, "Append", e, api.OK)
	}
}

// change sets cell 0 of pages, and logs that.
func (w *world) change(t *testing.T, pages ...int) {
	t.Helper()
	for _, n := range pages {
		w.append(t, 1)
		w.wantSet(t, n, 0, row(strconv.Itoa(w.g.Count())), w.g.Count(), api.OK)
	}
}

func (w *world) wantPage(t *testing.T, n int, asked api.Page) api.Page {
	t.Helper()
	g, e := w.p.Page(n)
	if e != api.OK || !equal(g, asked) {
		t.Errorf("Page(%d): %v, %d; asked for: %v", n, g, e, asked)
	}
	return g
}

func (w *world) wantNoPage(t *testing.T, n int, asked api.Errno) {
	t.Helper()
	if g, e := w.p.Page(n); e != asked || !isZero(g) {
		t.Errorf("Page(%d): %v, %d; asked for: %d", n, g, e, asked)
	}
}

func (w *world) wantSet(t *testing.T, n, at int, b []byte, lsn int, asked api.Errno) {
	t.Helper()
	if e := w.p.Set(n, at, b, lsn); e != asked {
		t.Errorf("Set(%d, %d, %v, %d): %d; asked for: %d", n, at, b, lsn, e, asked)
	}
}

func (w *world) wantLay(t *testing.T, n int, g api.Page, rec int, asked api.Errno) {
	t.Helper()
	if e := w.p.Lay(n, g, rec); e != asked {
		t.Errorf("Lay(%d, %v, %d): %d; asked for: %d", n, g, rec, e, asked)
	}
}

func (w *world) wantFlush(t *testing.T, n int, asked api.Errno) {
	t.Helper()
	if e := w.p.Flush(n); e != asked {
		t.Errorf("Flush(%d): %d; asked for: %d", n, e, asked)
	}
}

// wantDirty takes pages and their Recs by turns.
func (w *world) wantDirty(t *testing.T, asked ...int) {
	t.Helper()
	var l []int
	for _, d := range w.p.Dirty() {
		l = append(l, d.Page, d.Rec)
	}
	if !slices.Equal(l, asked) {
		t.Errorf("Dirty: %v; asked for: %v", l, asked)
	}
}

func (w *world) wantDisk(t *testing.T, n int, asked api.Page) {
	t.Helper()
	a, _ := w.d.Read(first + 2*n)
	b, _ := w.d.Read(first + 2*n + 1)
	if g, e := leaf.Take(a, b); e != api.OK || !equal(g, asked) {
		t.Errorf("page %d on the disk: %v, %d; asked for: %v", n, g, e, asked)
	}
}

// wantMemory kills the disk: pages that are not in memory can't be told then.
func (w *world) wantMemory(t *testing.T, asked ...int) {
	t.Helper()
	w.d.Crash(nil)
	var l []int
	for n := range w.p.Pages() {
		switch _, e := w.p.Page(n); e {
		case api.OK:
			l = append(l, n)
		case api.ErrDown:
		default:
			t.Errorf("Page(%d) while the disk is dead: %d", n, e)
		}
	}
	if !slices.Equal(l, asked) {
		t.Errorf("in memory: %v; asked for: %v", l, asked)
	}
}

// wantRuns holds f against how many operations of the disk it may have, and sees that all of them are synced.
func (w *world) wantRuns(t *testing.T, what string, asked int, f func()) {
	t.Helper()
	const far = 1000
	w.d.Arm(far, nil)
	f()
	c := w.d.Copy()
	left := 0
	for left < far && c.Sync() == api.OK {
		left++
	}
	w.d.Arm(-1, nil)
	want(t, what+": operations", far-left, asked)
	want(t, what+": loose tiles", len(w.d.Loose()), 0)
}

// shot is all that a disk, a log and the dirty pages show.
func (w *world) shot() string {
	d := w.d.Copy()
	d.Power()
	var b strings.Builder
	for at := range d.Tiles() {
		c, _ := d.Read(at)
		b.Write(c)
	}
	for _, x := range w.p.Dirty() {
		b.WriteString(" " + strconv.Itoa(x.Page) + "/" + strconv.Itoa(x.Rec))
	}
	for _, n := range append(d.Loose(), w.g.Count(), w.g.Stable(), w.p.Pages()) {
		b.WriteString(" " + strconv.Itoa(n))
	}
	return b.String() + strconv.FormatBool(w.d.Dead())
}

// wantSame sees that f changes nothing of a disk, a log and the dirty pages.
func (w *world) wantSame(t *testing.T, what string, f func()) {
	t.Helper()
	before := w.shot()
	f()
	if w.shot() != before {
		t.Errorf("%s changes something", what)
	}
}

// P8.1 New

func TestExample(t *testing.T) {
	w := made(t, 4, 2)
	w.wantPage(t, 1, api.Page{})
	w.wantSet(t, 1, 0, row("a"), 1, api.OK)
	w.wantDirty(t, 1, 1)
}

func TestNewReadsNothing(t *testing.T) {
	w := made(t, 4, 4)
	want(t, "Pages", w.p.Pages(), 4)
	w.wantDirty(t)
	w.wantMemory(t)
}

func TestPages(t *testing.T) {
	for pages, asked := range map[int]int{math.MinInt: 0, -1: 0, 0: 0, 1: 1, 16: 16, 5000: 5000, math.MaxInt: math.MaxInt} {
		w := made(t, 4, 2)
		w.p = pool.New(w.d, w.g, first, pages, 2)
		want(t, "Pages", w.p.Pages(), asked)
		w.wantDirty(t)
		for _, n := range []int{math.MinInt, -1, asked} {
			w.wantNumberRefused(t, n)
		}
	}
}

// wantNumberRefused is what every call with the number of no page answers.
func (w *world) wantNumberRefused(t *testing.T, n int) {
	t.Helper()
	w.wantSame(t, "a number of no page", func() {
		t.Helper()
		w.wantNoPage(t, n, api.ErrBad)
		w.wantSet(t, n, 0, nil, 1, api.ErrBad)
		w.wantSet(t, n, 9, nil, 1, api.ErrBad)
		w.wantLay(t, n, page(1), 1, api.ErrBad)
		w.wantFlush(t, n, api.ErrBad)
	})
}

func TestNumbersOfNoPage(t *testing.T) {
	w := made(t, 4, 1)
	w.change(t, 2)
	for _, n := range []int{-1, -2, math.MinInt, 4, 5, math.MaxInt} {
		w.wantNumberRefused(t, n)
	}
	// Ahead of the errors of a disk that is dead.
	w.d.Crash(nil)
	w.wantNumberRefused(t, -1)
	w.wantNumberRefused(t, 4)
	w.wantMemory(t, 2)
}

func TestNilPool(t *testing.T) {
	for _, p := range []*pool.Pool{nil, {}} {
		w := made(t, 4, 1)
		w.p = p
		want(t, "Pages", p.Pages(), 0)
		w.wantDirty(t)
		w.wantNumberRefused(t, 0)
		w.wantNumberRefused(t, -1)
	}
}

func TestFrames(t *testing.T) {
	for frames, asked := range map[int]int{math.MinInt: 1, -1: 1, 0: 1, 1: 1, 2: 2, 63: 63, 64: 64, 65: 64, 1000: 64, math.MaxInt: 64} {
		w := made(t, 70, frames)
		for n := range 70 {
			w.wantLay(t, n, page(0), 1, api.OK)
			want(t, "pages in memory", len(w.p.Dirty()), min(n+1, asked))
		}
		var l []int
		for n := 70 - asked; n < 70; n++ {
			l = append(l, n)
		}
		w.wantMemory(t, l...)
	}
}

func TestTilesOfAPage(t *testing.T) {
	for _, at := range []int{0, 1, 2, 3, 6} {
		w := made(t, 4, 4)
		w.p = pool.New(w.d, nil, at, 2, 4)
		for n := range 2 {
			g := page(3+n, row("a"), nil, nil, row("d"))
			a, b, _ := leaf.Put(g)
			w.wantLay(t, n, g, 1, api.OK)
			w.wantFlush(t, n, api.OK)
			for i, asked := range [][]byte{a, b} {
				if got, _ := w.d.Read(at + 2*n + i); !bytes.Equal(got, asked) {
					t.Errorf("first %d, page %d: tile %d has %x", at, n, at+2*n+i, got)
				}
			}
			w.p = pool.New(w.d, nil, at, 2, 4)
			w.wantPage(t, n, g)
		}
	}
}

// TestPagesWithoutTiles looks at pages whose tiles the disk does not have, or has one of: there they are in memory only.
func TestPagesWithoutTiles(t *testing.T) {
	const tiles = 9
	for _, x := range []struct{ first, n, at int }{
		{-1, 0, -1}, {-1, 1, 1}, {-2, 0, -1}, {-2, 1, 0}, {-3, 1, -1}, {-3, 2, 1}, {-1000, 500, 0}, {-1001, 500, -1}, {-1001, 501, 1},
		{0, 3, 6}, {0, 4, -1}, {1, 3, 7}, {1, 4, -1}, {7, 0, 7}, {7, 1, -1}, {8, 0, -1}, {9, 0, -1}, {4000, 0, -1}, {4002, 0, -1},
		{math.MinInt, 0, -1}, {math.MinInt, 1 << 62, 0}, {math.MinInt, 1<<62 + 3, 6}, {math.MinInt + 1, 1 << 62, 1}, {math.MinInt, 1<<62 - 1, -1},
		{math.MaxInt, 0, -1}, {math.MaxInt, 1, -1}, {math.MaxInt, 1 << 62, -1}, {math.MaxInt, math.MaxInt - 1, -1}, {math.MaxInt - 1, 1, -1},
		{0, 1 << 62, -1}, {2, 1 << 62, -1}, {0, 1 << 63 / 2, -1}, {5, math.MaxInt - 1, -1}, {-5, math.MaxInt - 1, -1}, {-1, 1 << 62, -1},
	} {
		d := tile.New(tiles)
		w := &world{d: d, p: pool.New(d, nil, x.first, math.MaxInt, 2)}
		g := page(5, row("a"))
		if x.at >= 0 {
			w.wantPage(t, x.n, api.Page{})
			w.wantLay(t, x.n, g, 1, api.OK)
			w.wantFlush(t, x.n, api.OK)
			b, _ := d.Read(x.at + 1)
			want(t, "a page's second tile", b[3], 5)
			continue
		}
		w.wantNoPage(t, x.n, api.ErrBad)
		w.wantSet(t, x.n, 0, nil, 1, api.ErrBad)
		w.wantLay(t, x.n, g, 1, api.OK)
		w.wantPage(t, x.n, g)
		w.wantSet(t, x.n, 1, row("b"), 6, api.OK)
		w.wantFlush(t, x.n, api.ErrBad)
		w.wantDirty(t, x.n, 1)
		want(t, "loose tiles", len(d.Loose()), 0)
		d.Crash(nil)
		w.wantFlush(t, x.n, api.ErrDown)
		w.wantPage(t, x.n, page(6, row("a"), row("b")))
		other := x.n - 1
		if x.n == 0 {
			other = 1
		}
		w.wantNoPage(t, other, api.ErrDown)
	}
}

func TestNilDisk(t *testing.T) {
	p := pool.New(nil, nil, 0, 4, 1)
	w := &world{p: p}
	w.wantNoPage(t, 0, api.ErrBad)
	w.wantSet(t, 0, 0, nil, 1, api.ErrBad)
	w.wantFlush(t, 0, api.OK)
	w.wantLay(t, 0, page(1, row("a")), 1, api.OK)
	w.wantPage(t, 0, page(1, row("a")))
	w.wantFlush(t, 0, api.ErrBad)
	w.wantLay(t, 1, page(1), 1, api.ErrBad)
	w.wantDirty(t, 0, 1)
}

// P8.1 Page

func TestPageOfZerosIsEmptyAndInMemory(t *testing.T) {
	w := made(t, 4, 4)
	w.wantSame(t, "Page", func() {
		w.wantPage(t, 2, api.Page{})
		w.wantPage(t, 0, api.Page{})
	})
	w.wantMemory(t, 0, 2)
}

func TestPageIsThatOfItsTiles(t *testing.T) {
	w := made(t, 4, 4)
	g := page(most, row("a"), nil, row("c"))
	g.Cells[3], _ = cell.Stub(api.RID{Page: 1, Cell: 2})
	w.store(t, 3, g)
	w.wantSame(t, "Page", func() { w.wantPage(t, 3, g) })
	// What is in memory is not read again.
	w.store(t, 3, page(1))
	w.wantPage(t, 3, g)
	w.tear(t, 3)
	w.wantPage(t, 3, g)
	w.wantFlush(t, 3, api.OK)
	w.wantPage(t, 3, g)
	w.wantMemory(t, 3)
}

func TestPageThatIsNone(t *testing.T) {
	w := made(t, 4, 4)
	w.tear(t, 0)
	w.spoil(t, 1)
	a, b, _ := leaf.Put(page(1))
	b[api.Tile-1] = 1
	w.put(t, 2, a, b)
	w.put(t, 3, bytes.Repeat([]byte{255}, api.Tile), bytes.Repeat([]byte{255}, api.Tile))
	for n, asked := range []api.Errno{api.ErrTorn, api.ErrForm, api.ErrForm, api.ErrForm} {
		w.wantSame(t, "a page that is none", func() {
			w.wantNoPage(t, n, asked)
			w.wantSet(t, n, 0, row("a"), 9, asked)
			w.wantFlush(t, n, api.OK)
		})
	}
	// Each time it is read again.
	w.store(t, 0, page(4, row("a")))
	w.wantPage(t, 0, page(4, row("a")))
	w.wantMemory(t, 0)
}

func TestPageWhileTheDiskIsDead(t *testing.T) {
	w := made(t, 4, 2)
	w.store(t, 1, page(4, row("a")))
	w.tear(t, 2)
	w.wantPage(t, 1, page(4, row("a")))
	w.d.Crash(nil)
	w.wantSame(t, "Page", func() {
		w.wantPage(t, 1, page(4, row("a")))
		w.wantNoPage(t, 0, api.ErrDown)
		w.wantNoPage(t, 2, api.ErrDown)
		w.wantSet(t, 2, 0, nil, 9, api.ErrDown)
	})
	w.d.Power()
	w.wantNoPage(t, 2, api.ErrTorn)
	w.wantPage(t, 0, api.Page{})
}

// P8.1 Set

func TestSet(t *testing.T) {
	w := made(t, 4, 4)
	w.store(t, 1, page(4, row("a"), nil, row("c")))
	w.wantSet(t, 1, 1, row("b"), 5, api.OK)
	w.wantDirty(t, 1, 5)
	w.wantPage(t, 1, page(5, row("a"), row("b"), row("c")))
	w.wantSet(t, 1, 0, nil, 9, api.OK)
	w.wantSet(t, 1, 3, row("d"), 10, api.OK)
	w.wantSet(t, 1, 2, []byte{}, 11, api.OK)
	w.wantPage(t, 1, page(11, nil, row("b"), nil, row("d")))
	// It stays dirty from the first change on.
	w.wantDirty(t, 1, 5)
	w.wantDisk(t, 1, page(4, row("a"), nil, row("c")))
	// Also where an LSN is below its Rec.
	w.wantLay(t, 2, page(3), 9, api.OK)
	w.wantSet(t, 2, 0, row("e"), 6, api.OK)
	w.wantDirty(t, 1, 5, 2, 9)
	w.wantMemory(t, 1, 2)
}

func TestSetOfZerosOrOfAnythingOfThatSize(t *testing.T) {
	w := made(t, 2, 2)
	zeros, odd := make([]byte, api.CellSize), bytes.Repeat([]byte{9}, api.CellSize)
	w.wantSet(t, 0, 0, zeros, 1, api.OK)
	w.wantSet(t, 0, 1, odd, 2, api.OK)
	g, e := w.p.Page(0)
	if e != api.OK || !leaf.Same(g, page(2, nil, odd)) {
		t.Errorf("Page: %v, %d", g, e)
	}
	// A Set that leaves the cell as it is changes the LSN.
	w.wantSet(t, 1, 2, nil, 3, api.OK)
	w.wantPage(t, 1, page(3))
	w.wantDirty(t, 0, 1, 1, 3)
}

func TestSetThatChangesNothing(t *testing.T) {
	w := made(t, 4, 4)
	g := page(4, row("a"))
	w.store(t, 1, g)
	w.wantSame(t, "Set", func() {
		for _, lsn := range []int{4, 3, 1, 0, -1, math.MinInt} {
			w.wantSet(t, 1, 0, row("b"), lsn, api.OK)
			w.wantSet(t, 0, 3, row("b"), min(lsn, 0), api.OK)
		}
	})
	w.wantDirty(t)
	w.wantPage(t, 1, g)
	w.wantPage(t, 0, page(0))
	w.wantSet(t, 1, 0, row("b"), 5, api.OK)
	w.wantSet(t, 1, 0, row("c"), 5, api.OK)
	w.wantPage(t, 1, page(5, row("b")))
	// It is in memory then.
	w = made(t, 4, 4)
	w.wantSet(t, 2, 0, row("b"), 0, api.OK)
	w.wantMemory(t, 2)
}

func TestSetThatIsRefused(t *testing.T) {
	for _, dirty := range []bool{false, true} {
		w := made(t, 4, 4)
		w.store(t, 1, page(4, row("a")))
		g := page(4, row("a"))
		if dirty {
			w.wantSet(t, 1, 1, row("b"), 5, api.OK)
			g = page(5, row("a"), row("b"))
		}
		w.wantSame(t, "Set", func() {
			for _, at := range []int{math.MinInt, -1, 4, 5, 256, math.MaxInt} {
				w.wantSet(t, 1, at, row("c"), 9, api.ErrBad)
				w.wantSet(t, 0, at, nil, 9, api.ErrBad)
				w.wantSet(t, 1, at, nil, 1, api.ErrBad)
			}
			for n := range 3 * api.CellSize {
				if n == 0 || n == api.CellSize {
					continue
				}
				w.wantSet(t, 1, 0, make([]byte, n), 9, api.ErrBad)
				w.wantSet(t, 0, 0, bytes.Repeat([]byte{1}, n), 1, api.ErrBad)
				w.wantSet(t, 1, 0, make([]byte, n), 1, api.ErrBad)
			}
		})
		w.wantPage(t, 1, g)
		// What is in memory is as before.
		w.wantMemory(t, 1)
	}
}

// TestSetThatIsRefusedIsNoUse sees that pages go out as if there had been none.
func TestSetThatIsRefusedIsNoUse(t *testing.T) {
	w := made(t, 8, 3)
	w.change(t, 0, 1, 2, 3) // instead of 0
	w.wantSet(t, 1, 9, nil, 9, api.ErrBad)
	w.wantSet(t, 7, 9, nil, 9, api.ErrBad)
	w.wantMemory(t, 1, 2, 3)
	w = made(t, 8, 3)
	w.change(t, 0, 1, 2, 3)
	w.wantSet(t, 1, 9, nil, 9, api.ErrBad)
	w.change(t, 4) // instead of 1, whose bit is clear
	w.wantMemory(t, 2, 3, 4)
}

// P8.1 Lay

func TestLay(t *testing.T) {
	w := made(t, 4, 4)
	g, h := page(6, row("a"), nil, row("c")), page(2, nil, row("b"))
	w.tear(t, 0)
	w.spoil(t, 1)
	w.store(t, 2, page(9, row("x")))
	for n := range 4 {
		w.wantLay(t, n, g, 7, api.OK)
		w.wantPage(t, n, g)
	}
	w.wantDirty(t, 0, 7, 1, 7, 2, 7, 3, 7)
	w.wantDisk(t, 2, page(9, row("x")))
	// Over one that is dirty, also with a lesser LSN.
	w.wantLay(t, 2, h, 8, api.OK)
	w.wantPage(t, 2, h)
	// Flushed, it is whole.
	w.wantFlush(t, 0, api.OK)
	w.wantDisk(t, 0, g)
	w.wantFlush(t, 2, api.OK)
	w.wantDisk(t, 2, h)
	w.wantForeign(t)
	w.wantMemory(t, 0, 1, 2, 3)
}

func TestLayMakesAPageDirtyFromTheLesserRecOn(t *testing.T) {
	w := made(t, 4, 4)
	w.wantLay(t, 0, page(6), 7, api.OK)
	for _, x := range [][2]int{{9, 7}, {7, 7}, {8, 7}, {3, 3}, {7, 3}, {4, 3}, {2, 2}, {0, 0}, {1, 0}, {-5, -5}, {math.MaxInt, -5}, {math.MinInt, math.MinInt}} {
		w.wantLay(t, 0, page(6), x[0], api.OK)
		w.wantDirty(t, 0, x[1])
	}
	// Of a page that Set made dirty.
	w.wantSet(t, 1, 0, nil, 5, api.OK)
	w.wantLay(t, 1, page(6), 6, api.OK)
	w.wantDirty(t, 0, math.MinInt, 1, 5)
	w.wantLay(t, 1, page(6), 4, api.OK)
	w.wantDirty(t, 0, math.MinInt, 1, 4)
	w.wantSet(t, 1, 0, nil, 9, api.OK)
	w.wantDirty(t, 0, math.MinInt, 1, 4)
	// A clean one has no Rec of before.
	w.wantFlush(t, 1, api.OK)
	w.wantLay(t, 1, page(6), 8, api.OK)
	w.wantDirty(t, 0, math.MinInt, 1, 8)
	w.wantPage(t, 2, page(0))
	w.wantLay(t, 2, page(0), 3, api.OK)
	w.wantDirty(t, 0, math.MinInt, 1, 8, 2, 3)
}

func TestLayThatIsRefused(t *testing.T) {
	w := made(t, 4, 1)
	w.change(t, 0)
	short, long := page(1), page(1)
	short.Cells[3] = []byte{1}
	long.Cells[0] = make([]byte, api.CellSize+1)
	w.wantSame(t, "Lay", func() {
		for _, g := range []api.Page{short, long, page(-1), page(most + 1), page(math.MinInt), page(math.MaxInt)} {
			w.wantLay(t, 0, g, 1, api.ErrBad)
			w.wantLay(t, 1, g, 1, api.ErrBad)
		}
	})
	w.wantLay(t, 0, page(most), 1, api.OK)
	w.wantMemory(t, 0)
}

func TestLayWhileTheDiskIsDead(t *testing.T) {
	w := made(t, 4, 2)
	w.d.Crash(nil)
	w.wantLay(t, 3, page(2, row("a")), 2, api.OK)
	w.wantLay(t, 2, page(3), 3, api.OK)
	w.wantLay(t, 3, page(4, row("b")), 4, api.OK)
	w.wantPage(t, 3, page(4, row("b")))
	w.wantSet(t, 3, 0, nil, 5, api.OK)
	w.wantLay(t, 0, page(4), 4, api.ErrDown) // what goes out can't be written
	w.wantDirty(t, 2, 3, 3, 2)
	w.wantFlush(t, 3, api.ErrDown)
	w.d.Power()
	w.wantFlush(t, 3, api.OK)
	w.wantDirty(t, 2, 3)
}

// P8.2 Flush

func TestFlush(t *testing.T) {
	w := made(t, 4, 4)
	w.append(t, 1)
	w.wantSet(t, 1, 2, row("a"), 1, api.OK)
	// The entry in one tile, and a sync; two tiles, and a sync.
	w.wantRuns(t, "Flush", 5, func() { w.wantFlush(t, 1, api.OK) })
	w.wantDisk(t, 1, page(1, nil, nil, row("a")))
	w.wantDirty(t)
	want(t, "Stable", w.g.Stable(), 1)
	w.wantPage(t, 1, page(1, nil, nil, row("a")))
	w.wantForeign(t)
	// Dirty again, it has another Rec.
	w.append(t, 6)
	w.wantSet(t, 1, 3, row("b"), 6, api.OK)
	w.wantDirty(t, 1, 6)
	w.wantFlush(t, 1, api.OK)
	w.wantDisk(t, 1, page(6, nil, nil, row("a"), row("b")))
	want(t, "Stable", w.g.Stable(), 7)
	w.wantMemory(t, 1)
}

func TestFlushOfWhatIsNotDirty(t *testing.T) {
	w := made(t, 4, 4)
	w.tear(t, 3)
	w.append(t, 2)
	w.wantPage(t, 0, page(0))
	w.wantSet(t, 1, 0, nil, 1, api.OK)
	w.wantFlush(t, 1, api.OK)
	w.append(t, 2)
	w.d.Arm(0, nil)
	for _, dead := range []bool{false, true} {
		if dead {
			w.d.Crash(nil)
		}
		w.wantSame(t, "Flush", func() {
			for n := range 4 {
				w.wantFlush(t, n, api.OK)
			}
		})
	}
	w.wantMemory(t, 0, 1)
}

func TestFlushForcesTheLogWhereItMust(t *testing.T) {
	for lsn := 1; lsn <= 6; lsn++ {
		w := made(t, 4, 4)
		w.append(t, 3)
		want(t, "Force", w.g.Force(), api.OK)
		w.append(t, 2)
		w.wantSet(t, 2, 0, row("a"), lsn, api.OK)
		w.wantFlush(t, 2, api.OK)
		w.wantDisk(t, 2, page(lsn, row("a")))
		asked := 5
		if lsn <= 3 {
			asked = 3
		}
		want(t, "Stable, of LSN "+strconv.Itoa(lsn), w.g.Stable(), asked)
	}
}

func TestFlushGoesByTheLSNAndNotByTheRec(t *testing.T) {
	w := made(t, 4, 4)
	w.append(t, 2)
	want(t, "Force", w.g.Force(), api.OK)
	w.append(t, 1)
	w.wantSet(t, 0, 0, nil, 1, api.OK)
	w.wantSet(t, 0, 0, nil, 3, api.OK)
	w.wantDirty(t, 0, 1)
	w.wantLay(t, 1, page(2), 3, api.OK)
	w.wantFlush(t, 1, api.OK)
	want(t, "Stable", w.g.Stable(), 2)
	w.wantFlush(t, 0, api.OK)
	want(t, "Stable", w.g.Stable(), 3)
}

func TestFlushWithoutALog(t *testing.T) {
	w := made(t, 4, 1)
	w.p = pool.New(w.d, nil, first, 4, 1)
	w.wantSet(t, 0, 0, row("a"), most, api.OK)
	w.wantRuns(t, "Flush", 3, func() { w.wantFlush(t, 0, api.OK) })
	w.wantDisk(t, 0, page(most, row("a")))
	w.wantSet(t, 1, 0, row("b"), 99, api.OK)
	w.wantRuns(t, "Page", 3, func() { w.wantPage(t, 2, page(0)) })
	w.wantDisk(t, 1, page(99, row("b")))
}

// TestFlushCutAnywhere cuts each operation of a flush: those of the log come first.
func TestFlushCutAnywhere(t *testing.T) {
	for at := range 6 {
		w := made(t, 4, 4)
		w.store(t, 1, page(0, row("old")))
		w.append(t, 3) // in two tiles
		w.wantSet(t, 1, 0, row("new"), 3, api.OK)
		w.d.Arm(at, []byte{255})
		w.wantFlush(t, 1, api.ErrDown)
		w.wantDirty(t, 1, 3)
		w.wantPage(t, 1, page(3, row("new")))
		w.d.Power()
		stable := 0
		if at > 2 {
			stable = 3
		}
		want(t, "Stable", w.g.Stable(), stable)
		a, _ := w.d.Read(first + 2)
		b, _ := w.d.Read(first + 3)
		want(t, "the first tile is new", a[3] == 3, at >= 3)
		want(t, "the second tile is new", b[3] == 3, at >= 4)
		w.wantFlush(t, 1, api.OK)
		w.wantDisk(t, 1, page(3, row("new")))
		w.wantDirty(t)
		want(t, "Stable", w.g.Stable(), 3)
	}
}

func TestFlushOfAPageThatLeafRefuses(t *testing.T) {
	w := made(t, 4, 1)
	w.wantSet(t, 0, 0, nil, most+1, api.OK)
	w.wantSame(t, "Flush", func() {
		w.wantFlush(t, 0, api.ErrBad)
		w.wantNoPage(t, 1, api.ErrBad)
	})
	w.wantPage(t, 0, page(most+1))
	w.wantLay(t, 0, page(1), 1, api.OK)
	w.wantFlush(t, 0, api.OK)
}

// Errors, each against the next one

// apart is a world whose log is on a disk of its own, so that either may be dead.
func apart(t *testing.T, frames int) (w *world, log *tile.Disk) {
	t.Helper()
	w, log = made(t, 4, frames), tile.New(logTiles)
	g, _, e := trail.Open(log, 0, logTiles)
	want(t, "Open", e, api.OK)
	w.g, w.p = g, pool.New(w.d, g, first, 4, frames)
	return w, log
}

func TestOrderOfErrorsOfFlush(t *testing.T) {
	w, log := apart(t, 4)
	w.change(t, 1)
	// No such page, ahead of both disks.
	w.d.Crash(nil)
	log.Crash(nil)
	w.wantFlush(t, 4, api.ErrBad)
	// The log, ahead of the disk: the log's is down, and a nil one is bad.
	n := &world{g: w.g, p: pool.New(nil, w.g, 0, 4, 4)}
	n.wantLay(t, 0, page(1), 1, api.OK)
	n.wantFlush(t, 0, api.ErrDown)
	log.Power()
	n.wantFlush(t, 0, api.ErrBad)
	want(t, "Stable", w.g.Stable(), 1)
	n.wantDirty(t, 0, 1)
	// The disk's own.
	w.wantFlush(t, 1, api.ErrDown)
	w.d.Power()
	w.wantFlush(t, 1, api.OK)
}

func TestErrorOfForceLeavesThePageDirty(t *testing.T) {
	w, log := apart(t, 1)
	w.change(t, 1)
	log.Crash(nil)
	w.wantSame(t, "Flush", func() {
		w.wantFlush(t, 1, api.ErrDown)
		w.wantNoPage(t, 2, api.ErrDown)
		w.wantSet(t, 2, 0, nil, 1, api.ErrDown)
		w.wantLay(t, 2, page(1), 1, api.ErrDown)
	})
	log.Power()
	w.wantFlush(t, 1, api.OK)
	w.wantDirty(t)
}

func TestErrorOfTheDiskLeavesThePageDirty(t *testing.T) {
	w, _ := apart(t, 1)
	w.change(t, 1)
	for at := range 3 {
		w.d.Arm(at, nil)
		w.wantFlush(t, 1, api.ErrDown)
		w.wantDirty(t, 1, 1)
		w.d.Power()
		w.wantDisk(t, 1, page(0))
	}
	w.d.Crash(nil)
	w.wantFlush(t, 1, api.ErrDown)
	w.wantDirty(t, 1, 1)
}

func TestOrderOfErrorsOfPageAndSet(t *testing.T) {
	w := made(t, 4, 1)
	w.tear(t, 1)
	w.change(t, 0)
	// The disk, ahead of what the tiles are.
	w.d.Crash(nil)
	w.wantNoPage(t, 1, api.ErrDown)
	w.wantSet(t, 1, 9, nil, 1, api.ErrDown)
	w.d.Power()
	// What the tiles are, ahead of the page that goes out.
	w.d.Arm(0, nil)
	w.wantSame(t, "Page", func() {
		w.wantNoPage(t, 1, api.ErrTorn)
		w.wantSet(t, 1, 9, nil, 1, api.ErrTorn)
	})
	// The page that goes out, ahead of a cell that there is not.
	w.wantSet(t, 2, 9, nil, 1, api.ErrDown)
	w.d.Power()
	w.d.Arm(0, nil)
	w.wantSet(t, 2, 0, []byte{1}, 1, api.ErrDown)
	w.d.Power()
	w.wantDirty(t, 0, 1)
	// A cell that there is not.
	w.wantSet(t, 0, 9, nil, 9, api.ErrBad)
	w.wantSet(t, 2, 9, nil, 9, api.ErrBad)
	w.wantMemory(t, 0)
}

func TestOrderOfErrorsOfLay(t *testing.T) {
	w := made(t, 4, 1)
	w.change(t, 0)
	w.d.Arm(0, nil)
	// A page that leaf.Put refuses, ahead of the page that goes out.
	w.wantSame(t, "Lay", func() {
		w.wantLay(t, 4, page(1), 1, api.ErrBad)
		w.wantLay(t, 1, page(-1), 1, api.ErrBad)
	})
	w.wantLay(t, 1, page(1), 1, api.ErrDown)
	w.wantDirty(t, 0, 1)
}

// P8.2 Dirty

func TestDirtyIsInAscendingOrder(t *testing.T) {
	w := made(t, 70, 64)
	var asked []int
	for i := range 64 {
		n := (i*37 + 11) % 64
		w.wantLay(t, n, page(n), 100-n, api.OK)
	}
	for n := range 64 {
		asked = append(asked, n, 100-n)
	}
	w.wantDirty(t, asked...)
	w.wantFlush(t, 0, api.OK)
	w.wantFlush(t, 63, api.OK)
	w.wantDirty(t, asked[2:126]...)
}

// R3

func TestWhatIsHandedInIsNotKept(t *testing.T) {
	w := made(t, 4, 4)
	room := append(row("a"), row("b")...)
	b := room[:api.CellSize]
	w.wantSet(t, 0, 0, b, 1, api.OK)
	if !bytes.Equal(room, append(row("a"), row("b")...)) {
		t.Errorf("Set changes what it is given: %v", room)
	}
	clear(room)
	w.wantPage(t, 0, page(1, row("a")))
	g := page(2, row("c"), nil, row("e"), row("f"))
	w.wantLay(t, 1, g, 2, api.OK)
	if !equal(g, page(2, row("c"), nil, row("e"), row("f"))) {
		t.Errorf("Lay changes what it is given: %v", g)
	}
	for _, c := range g.Cells {
		clear(c)
	}
	w.wantPage(t, 1, page(2, row("c"), nil, row("e"), row("f")))
}

// spend changes all that a page's cells lead to.
func spend(g api.Page) {
	for i, c := range g.Cells {
		clear(c[:cap(c)])
		g.Cells[i] = nil
	}
}

func TestWhatIsToldIsSharedWithNothing(t *testing.T) {
	w := made(t, 4, 4)
	stored := page(3, row("a"), row("b"), nil, row("d"))
	w.store(t, 0, stored)
	w.wantLay(t, 1, stored, 1, api.OK)
	for n := range 2 {
		spend(w.wantPage(t, n, stored)) // as it was brought in
		g := w.wantPage(t, n, stored)
		spend(w.wantPage(t, n, stored))
		if !equal(g, stored) {
			t.Errorf("two answers share something: %v", g)
		}
		w.wantSet(t, n, 2, row("c"), 4, api.OK)
		if !equal(g, stored) {
			t.Errorf("an answer of before has changed: %v", g)
		}
		changed := page(4, row("a"), row("b"), row("c"), row("d"))
		spend(w.wantPage(t, n, changed))
		// A page told may be laid as another, and neither changes with the other.
		w.wantLay(t, 2, w.wantPage(t, n, changed), 4, api.OK)
		w.wantSet(t, 2, 0, nil, 5, api.OK)
		spend(w.wantPage(t, 2, page(5, nil, row("b"), row("c"), row("d"))))
		w.wantPage(t, n, changed)
		w.wantFlush(t, n, api.OK)
		w.wantDisk(t, n, changed)
	}
	l := w.p.Dirty()
	clear(l[:cap(l)])
	w.wantDirty(t, 2, 4)
}

func TestPoolsAreIndependent(t *testing.T) {
	w := made(t, 4, 2)
	v := &world{d: w.d, g: w.g, p: pool.New(w.d, w.g, first, 4, 2)}
	w.wantLay(t, 0, page(1, row("a")), 1, api.OK)
	v.wantPage(t, 0, page(0))
	v.wantDirty(t)
	w.wantFlush(t, 0, api.OK)
	v.wantPage(t, 0, page(0))
	w.wantDirty(t)
	v.p = pool.New(w.d, w.g, first, 4, 2)
	v.wantPage(t, 0, page(1, row("a")))
}
