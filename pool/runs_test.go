package pool_test

import (
	"bytes"
	"slices"
	"strconv"
	"testing"

	"whim/api"
	"whim/leaf"
	"whim/pool"
	"whim/tile"
	"whim/trail"
)

// frame is a place of a plain pool's cache.
type frame struct {
	n     int
	g     api.Page
	bit   bool
	dirty bool
	rec   int
}

// plain is a pool as the chapters tell it: a list of frames, in which the hand goes round. It has a disk and a log of its own.
type plain struct {
	d      *tile.Disk
	g      *trail.Trail
	pages  int
	room   int
	frames []frame
	hand   int
}

func (p *plain) at(n int) int {
	return slices.IndexFunc(p.frames, func(f frame) bool { return f.n == n })
}

// bring puts a page into a frame, and tells which one; -1 beside an error.
func (p *plain) bring(n int, g api.Page) (int, api.Errno) {
	fresh := frame{n: n, g: g, bit: true}
	if len(p.frames) < p.room {
		p.frames = append(p.frames, fresh)
		return len(p.frames) - 1, api.OK
	}
	frames, i := slices.Clone(p.frames), p.hand
	for frames[i].bit {
		frames[i].bit = false
		i = (i + 1) % p.room
	}
	if e := p.flush(&frames[i]); e != api.OK {
		return -1, e
	}
	frames[i] = fresh
	p.frames, p.hand = frames, (i+1)%p.room
	return i, api.OK
}

func (p *plain) flush(f *frame) api.Errno {
	if !f.dirty {
		return api.OK
	}
	if f.g.LSN > p.g.Stable() {
		if e := p.g.Force(); e != api.OK {
			return e
		}
	}
	a, b, e := leaf.Put(f.g)
	if e != api.OK {
		return e
	}
	for i, c := range [][]byte{a, b} {
		if e := p.d.Write(first+2*f.n+i, c); e != api.OK {
			return e
		}
	}
	if e := p.d.Sync(); e != api.OK {
		return e
	}
	f.dirty = false
	return api.OK
}

func (p *plain) page(n int) (api.Page, api.Errno) {
	if n < 0 || n >= p.pages {
		return api.Page{}, api.ErrBad
	}
	if i := p.at(n); i >= 0 {
		p.frames[i].bit = true
		return p.frames[i].g, api.OK
	}
	a, e := p.d.Read(first + 2*n)
	b, _ := p.d.Read(first + 2*n + 1)
	if e != api.OK {
		return api.Page{}, e
	}
	g, e := leaf.Take(a, b)
	if e != api.OK {
		return api.Page{}, e
	}
	if _, e := p.bring(n, g); e != api.OK {
		return api.Page{}, e
	}
	return g, api.OK
}

func (p *plain) set(n, at int, b []byte, lsn int) api.Errno {
	g, e := p.page(n)
	if e != api.OK || lsn <= g.LSN {
		return e
	}
	g.Cells[at], g.LSN = b, lsn
	f := &p.frames[p.at(n)]
	f.g = g
	if !f.dirty {
		f.dirty, f.rec = true, lsn
	}
	return api.OK
}

func (p *plain) lay(n int, g api.Page, rec int) api.Errno {
	if n < 0 || n >= p.pages || g.LSN < 0 {
		return api.ErrBad
	}
	i := p.at(n)
	if i < 0 {
		var e api.Errno
		if i, e = p.bring(n, g); e != api.OK {
			return e
		}
	}
	f := &p.frames[i]
	if f.dirty {
		rec = min(rec, f.rec)
	}
	*f = frame{n: n, g: g, bit: true, dirty: true, rec: rec}
	return api.OK
}

func (p *plain) flushPage(n int) api.Errno {
	if n < 0 || n >= p.pages {
		return api.ErrBad
	}
	if i := p.at(n); i >= 0 {
		return p.flush(&p.frames[i])
	}
	return api.OK
}

func (p *plain) dirty() []api.Dirty {
	var l []api.Dirty
	for n := range p.pages {
		if i := p.at(n); i >= 0 && p.frames[i].dirty {
			l = append(l, api.Dirty{Page: n, Rec: p.frames[i].rec})
		}
	}
	return l
}

// dice throws numbers, in an order that is always the same.
type dice struct{ seed uint32 }

func (d *dice) next(n int) int {
	d.seed = d.seed*1664525 + 1013904223
	return int(d.seed>>16) % n
}

// cell is one of a few cells.
func (d *dice) cell() []byte {
	if k := d.next(12); k > 0 {
		return row(strconv.Itoa(k))
	}
	return nil
}

func (d *dice) page(lsn int) api.Page {
	return page(lsn, d.cell(), d.cell(), d.cell(), d.cell())
}

// both is a pool and a plain one, to which the same is done.
type both struct {
	*dice
	w    *world
	p    *plain
	seen map[string]int // what the steps were answered, and how often
}

func (b *both) same(t *testing.T, what string, n int, got, asked api.Errno) {
	t.Helper()
	if got != asked {
		t.Fatalf("%s of %d: %d; asked for: %d", what, n, got, asked)
	}
	b.seen[what+" "+strconv.Itoa(int(got))]++
}

func (b *both) page(t *testing.T, n int) {
	t.Helper()
	g, got := b.w.p.Page(n)
	h, asked := b.p.page(n)
	b.same(t, "Page", n, got, asked)
	if !equal(g, h) {
		t.Fatalf("Page(%d): %v; asked for: %v", n, g, h)
	}
}

func (b *both) set(t *testing.T, n int) {
	t.Helper()
	at, c, lsn := b.next(api.Cells), b.cell(), b.w.g.Count()-2+b.next(6)
	b.same(t, "Set", n, b.w.p.Set(n, at, c, lsn), b.p.set(n, at, c, lsn))
}

func (b *both) lay(t *testing.T, n int) {
	t.Helper()
	g, rec := b.dice.page(b.next(b.w.g.Count()+4)-1), b.next(20)
	b.same(t, "Lay", n, b.w.p.Lay(n, g, rec), b.p.lay(n, g, rec))
}

// scribble gives a page's tiles something else, so that it shows whether it is read again.
func (b *both) scribble(t *testing.T, n int) {
	if b.w.d.Dead() || n < 0 || n >= b.p.pages {
		return
	}
	x, y, _ := leaf.Put(b.dice.page(b.next(9)))
	if b.next(4) == 0 {
		x[3]++ // torn
	}
	for _, d := range []*tile.Disk{b.w.d, b.p.d} {
		d.Write(first+2*n, x)
		d.Write(first+2*n+1, y)
	}
}

// disks does the same to both disks.
func (b *both) disks(f func(d *tile.Disk)) {
	f(b.w.d)
	f(b.p.d)
}

func (b *both) step(t *testing.T) {
	t.Helper()
	n := b.next(b.p.pages+2) - 1
	switch k := b.next(20); k {
	case 0, 1, 2:
		e := set(n&31, 0, b.cell())
		b.w.g.Append(e)
		b.p.g.Append(e)
	case 3, 4, 5, 6:
		b.page(t, n)
	case 7, 8, 9, 10:
		b.set(t, n)
	case 11, 12:
		b.lay(t, n)
	case 13:
		b.same(t, "Flush", n, b.w.p.Flush(n), b.p.flushPage(n))
	case 14:
		b.same(t, "Force", 0, b.w.g.Force(), b.p.g.Force())
	case 15:
		b.scribble(t, n)
	case 16, 17:
		at, mask := b.next(6), []byte{byte(b.next(256))}
		b.disks(func(d *tile.Disk) { d.Arm(at, mask) })
	default:
		b.disks((*tile.Disk).Power)
	}
}

// wantAlike holds all that the pool, its log and its disk show against those of the plain one.
func (b *both) wantAlike(t *testing.T, at int) {
	t.Helper()
	if got, asked := b.w.p.Dirty(), b.p.dirty(); !slices.Equal(got, asked) {
		t.Fatalf("step %d: Dirty: %v; asked for: %v", at, got, asked)
	}
	if b.w.d.Dead() != b.p.d.Dead() || !slices.Equal(b.w.d.Loose(), b.p.d.Loose()) || b.w.g.Stable() != b.p.g.Stable() {
		t.Fatalf("step %d: the disk is dead: %t, loose: %v, Stable: %d", at, b.w.d.Dead(), b.w.d.Loose(), b.w.g.Stable())
	}
	c, d := b.w.d.Copy(), b.p.d.Copy()
	c.Power()
	d.Power()
	for i := range c.Tiles() {
		x, _ := c.Read(i)
		y, _ := d.Read(i)
		if !bytes.Equal(x, y) {
			t.Fatalf("step %d: tile %d has %v; asked for: %v", at, i, x, y)
		}
	}
}

func TestLongRunsAreThoseOfAPlainPool(t *testing.T) {
	seen := map[string]int{}
	r := &dice{seed: 7}
	for i := range 1200 {
		frames := 1 + i%5
		w := made(t, 7, frames)
		p := &plain{d: w.d.Copy(), pages: 7, room: frames}
		p.g, _, _ = trail.Open(p.d, first+2*7+1, logTiles)
		b := &both{dice: r, w: w, p: p, seen: seen}
		for at := range 60 {
			b.step(t)
			b.wantAlike(t, at)
		}
	}
	for _, s := range []string{"Page 0", "Page 1", "Page 2", "Page 3", "Set 0", "Set 1", "Set 2", "Set 3", "Lay 0", "Lay 1", "Lay 2",
		"Flush 0", "Flush 1", "Flush 2", "Force 0", "Force 2"} {
		if seen[s] < 100 {
			t.Errorf("%s: %d times", s, seen[s])
		}
	}
}

// TestLongRunsAreThoseOfPagesInMemory holds pools against a list of pages: of what is in memory, and what is not, no answer tells.
func TestLongRunsAreThoseOfPagesInMemory(t *testing.T) {
	const pages = 9
	r := &dice{seed: 5}
	for i := range 300 {
		w := made(t, pages, 1+i%8)
		var all [pages]api.Page
		for range 100 {
			n := r.next(pages)
			switch g := &all[n]; r.next(8) {
			case 0, 1:
				w.wantPage(t, n, *g)
			case 2, 3, 4:
				e := set(n, r.next(api.Cells), r.cell())
				lsn, err := w.g.Append(e)
				if err != api.OK {
					continue
				}
				w.wantSet(t, n, e.At.Cell, e.New, lsn, api.OK)
				g.Cells[e.At.Cell], g.LSN = e.New, lsn
			case 5:
				*g = r.page(w.g.Count())
				w.wantLay(t, n, *g, w.g.Count(), api.OK)
			case 6:
				w.wantFlush(t, n, api.OK)
				w.wantDisk(t, n, *g)
			case 7:
				w.wantSet(t, n, r.next(api.Cells), r.cell(), g.LSN-r.next(3), api.OK)
			}
		}
		wantAllFlushed(t, w, all[:])
		if t.Failed() {
			return
		}
	}
}

// wantAllFlushed flushes all pages, and reads them by another pool.
func wantAllFlushed(t *testing.T, w *world, all []api.Page) {
	t.Helper()
	for n := range all {
		w.wantFlush(t, n, api.OK)
	}
	w.wantDirty(t)
	w.wantForeign(t)
	w.p = pool.New(w.d, w.g, first, len(all), 2)
	for n, g := range all {
		w.wantDisk(t, n, g)
		w.wantPage(t, n, g)
	}
}
