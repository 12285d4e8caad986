package pool_test

import (
	"slices"
	"strconv"
	"strings"
	"testing"

	"whim/api"
)

// played is a pool with the pages that are dirty, in ascending order.
type played struct {
	*world
	dirty []int
}

// play does steps on a new pool of pages 0 to 9, and holds the dirty pages against what stands behind them:
//
//	0     Set of page 0; no page goes out
//	0>1   Set of page 0, for which page 1 goes out
//	?0    Page of page 0, which is in memory
//	=0    Lay of page 0, which is in memory
//	!0    Flush of page 0, which is in memory
//
// Ahead of each step by which a page goes out, try is done, behind which all must go on as if it had not been.
func play(t *testing.T, frames int, steps string, try func(t *testing.T, p *played, n, out int)) {
	t.Helper()
	p := &played{world: made(t, 10, frames)}
	for i, s := range strings.Fields(steps) {
		at := "step " + strconv.Itoa(i) + ", " + s + ", of " + steps
		n := int(s[strings.IndexAny(s, "0123456789")] - '0')
		p.append(t, 1)
		// No entry of the log is that late: all of them are forced ahead of a flush.
		lsn := 1000 + p.g.Count()
		switch {
		case s[0] == '?':
			_, e := p.p.Page(n)
			want(t, at, e, api.OK)
		case s[0] == '=':
			want(t, at, p.p.Lay(n, page(lsn), 1), api.OK)
		case s[0] == '!':
			want(t, at, p.p.Flush(n), api.OK)
			p.without(n)
		case len(s) > 1:
			out := int(s[2] - '0')
			try(t, p, n, out)
			p.wantOnly(t, at+", ahead of it")
			p.without(out)
			fallthrough
		default:
			want(t, at, p.p.Set(n, 0, nil, lsn), api.OK)
			p.dirty = append(p.dirty, n)
		}
		p.wantOnly(t, at)
	}
}

func (p *played) without(n int) {
	p.dirty = slices.DeleteFunc(p.dirty, func(m int) bool { return m == n })
}

func (p *played) wantOnly(t *testing.T, at string) {
	t.Helper()
	slices.Sort(p.dirty)
	p.dirty = slices.Compact(p.dirty)
	var l []int
	for _, d := range p.p.Dirty() {
		l = append(l, d.Page)
	}
	if !slices.Equal(l, p.dirty) {
		t.Fatalf("%s: dirty: %v; asked for: %v", at, l, p.dirty)
	}
}

// playAll plays steps in which all pages in memory are dirty, and which hang on each bit, and on where the hand is.
func playAll(t *testing.T, try func(t *testing.T, p *played, n, out int)) {
	t.Helper()
	play(t, 1, "0 1>0 2>1 0>2 3>0 3 ?3 4>3", try)
	play(t, 2, "0 1 2>0 3>1 4>2 5>3 0>4 1>5", try)
	play(t, 2, "0 1 2>0 ?1 3>1 ?2 4>2 5>3", try)
	play(t, 3, "0 1 2 3>0 4>1 5>2 6>3 7>4 8>5", try)
	play(t, 3, "0 1 2 3>0 ?1 4>2 5>1", try)
	play(t, 3, "0 1 2 3>0 1 4>2 5>1", try)
	play(t, 3, "0 1 2 3>0 =1 4>2 5>1", try)
	play(t, 3, "0 1 2 3>0 ?1 ?2 4>1 5>2 6>3", try)
	play(t, 3, "0 1 2 3>0 4>1 ?2 ?3 5>2 6>3", try)
	play(t, 3, "0 1 2 3>0 4>1 ?2 5>2 6>3 7>4", try)
	play(t, 4, "0 1 2 3 4>0 ?1 5>2 ?3 6>1 7>3 8>4", try)
	play(t, 4, "0 1 2 3 4>0 5>1 ?2 6>3 7>2 8>4", try)
	play(t, 4, "0 1 2 3 4>0 ?1 ?2 ?3 5>1 6>2 ?3 ?4 ?5 ?6 7>3 8>4", try)
	play(t, 5, "0 1 2 3 4 5>0 ?2 6>1 ?3 7>4 8>2 9>3 0>5", try)
}

// cut lets an operation of the disk fail while f is done.
func (p *played) cut(at int, mask []byte, f func()) {
	p.d.Arm(at, mask)
	f()
	p.d.Power()
	p.d.Arm(-1, nil)
}

func TestPagesGoOutAsTheCacheSays(t *testing.T) {
	playAll(t, func(*testing.T, *played, int, int) {})
}

func TestToBeFlushedIsNoUse(t *testing.T) {
	nothing := func(*testing.T, *played, int, int) {}
	play(t, 3, "0 1 2 3>0 !1 4>1 5>2", nothing)
	play(t, 3, "0 1 2 3>0 !1 !2 !1 4>1 5>2 6>3", nothing)
	play(t, 3, "0 1 2 3>0 ?1 !1 !2 4>2 5>1", nothing)
}

func TestErrorOfAFlushForAnotherPageChangesNothing(t *testing.T) {
	for at := range 3 {
		playAll(t, func(t *testing.T, p *played, n, out int) {
			t.Helper()
			want(t, "Force", p.g.Force(), api.OK)
			for m := range 10 {
				if !slices.Contains(p.dirty, m) {
					p.cut(at, []byte{255}, func() { p.wantNoPage(t, m, api.ErrDown) })
					p.cut(at, nil, func() { p.wantSet(t, m, 0, nil, 9999, api.ErrDown) })
					p.cut(at, nil, func() { p.wantSet(t, m, 9, nil, 9999, api.ErrDown) })
					p.cut(at, []byte{255}, func() { p.wantLay(t, m, page(9999), 9999, api.ErrDown) })
				}
			}
		})
	}
}

func TestErrorOfAForceForAnotherPageChangesNothing(t *testing.T) {
	playAll(t, func(t *testing.T, p *played, n, out int) {
		t.Helper()
		stable := p.g.Stable()
		p.cut(0, nil, func() { p.wantNoPage(t, n, api.ErrDown) })
		p.cut(1, nil, func() { p.wantSet(t, n, 0, nil, 9999, api.ErrDown) })
		p.cut(0, nil, func() { p.wantSet(t, n, 9, nil, 9999, api.ErrDown) })
		p.cut(1, nil, func() { p.wantLay(t, n, page(9999), 9999, api.ErrDown) })
		want(t, "Stable", p.g.Stable(), stable)
	})
}

func TestErrorsAheadOfAFlushForAnotherPageChangeNothing(t *testing.T) {
	playAll(t, func(t *testing.T, p *played, n, out int) {
		t.Helper()
		p.wantNumberRefused(t, -1)
		p.wantNumberRefused(t, 10)
		p.wantSame(t, "a refusal", func() {
			t.Helper()
			p.wantLay(t, n, page(-1), 1, api.ErrBad)
			p.wantLay(t, out, page(-1), 1, api.ErrBad)
			for _, m := range p.dirty {
				p.wantSet(t, m, 4, nil, 9999, api.ErrBad)
				p.wantSet(t, m, 0, []byte{1}, 9999, api.ErrBad)
			}
			p.wantFlush(t, n, api.OK)
		})
		p.tear(t, n)
		p.wantNoPage(t, n, api.ErrTorn)
		p.spoil(t, n)
		p.wantSet(t, n, 0, nil, 9999, api.ErrForm)
		p.store(t, n, page(0))
		p.d.Crash(nil)
		p.wantNoPage(t, n, api.ErrDown)
		p.wantSet(t, n, 9, nil, 9999, api.ErrDown)
		p.d.Power()
	})
}

func TestCleanPageThatGoesOutIsNotWritten(t *testing.T) {
	w := made(t, 4, 1)
	w.append(t, 1)
	w.wantPage(t, 0, page(0))
	w.wantSet(t, 1, 0, row("b"), 1, api.OK)
	want(t, "Stable", w.g.Stable(), 0)
	w.wantFlush(t, 1, api.OK)
	// Nothing is written over what others write to its tiles, and that is what is read then.
	w.store(t, 1, page(7, row("x")))
	w.append(t, 1)
	w.wantSame(t, "a page that goes out clean", func() {
		w.d.Arm(0, nil)
		w.wantPage(t, 2, page(0))
		w.wantPage(t, 1, page(7, row("x")))
		w.wantPage(t, 0, page(0))
		w.d.Arm(-1, nil)
	})
	w.wantSet(t, 0, 0, row("a"), 2, api.OK)
	w.wantFlush(t, 0, api.OK)
	w.d.Arm(0, nil)
	w.wantLay(t, 3, page(1), 1, api.OK)
	w.wantDirty(t, 3, 1)
	w.wantMemory(t, 3)
}

func TestDirtyPageThatGoesOutIsFlushedFirst(t *testing.T) {
	w := made(t, 4, 1)
	w.append(t, 3)
	w.wantSet(t, 0, 0, row("a"), 2, api.OK)
	// The entries in two tiles, and a sync; two tiles, and a sync.
	w.wantRuns(t, "Page", 6, func() { w.wantPage(t, 1, page(0)) })
	w.wantDisk(t, 0, page(2, row("a")))
	w.wantDirty(t)
	want(t, "Stable", w.g.Stable(), 3)
	w.wantMemory(t, 1)
	w.d.Power()
	// By a Set, of an LSN that is stable, and by a Lay.
	w.append(t, 1)
	w.wantSet(t, 1, 1, row("b"), 3, api.OK)
	w.wantRuns(t, "Set", 3, func() { w.wantSet(t, 2, 0, row("c"), 4, api.OK) })
	w.wantDisk(t, 1, page(3, nil, row("b")))
	want(t, "Stable", w.g.Stable(), 3)
	w.wantDirty(t, 2, 4)
	w.tear(t, 3)
	w.wantRuns(t, "Lay", 5, func() { w.wantLay(t, 3, page(1), 1, api.OK) })
	w.wantDisk(t, 2, page(4, row("c")))
	want(t, "Stable", w.g.Stable(), 4)
	w.wantDirty(t, 3, 1)
	// Read again, it is clean, and has another Rec then.
	w.wantPage(t, 2, page(4, row("c")))
	w.wantDirty(t)
	w.wantSet(t, 2, 0, nil, 9, api.OK)
	w.wantDirty(t, 2, 9)
	w.wantDisk(t, 3, page(1))
	w.wantForeign(t)
}

// TestSetThatIsRefusedBringsNothingIn: the page that would go out is flushed, as an error of that comes first; it stays where it is.
func TestSetThatIsRefusedBringsNothingIn(t *testing.T) {
	w := made(t, 4, 1)
	w.change(t, 0)
	w.wantSet(t, 2, 4, nil, 9, api.ErrBad)
	w.wantSet(t, 2, 0, []byte{1}, 9, api.ErrBad)
	w.wantPage(t, 0, page(1, row("1")))
	w.wantMemory(t, 0)
}
