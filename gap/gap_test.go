package gap_test

import (
	"math"
	"testing"

	"whim/api"
	"whim/gap"
)

// The face, as the chapter lists it.
var (
	_ func(pages int) *gap.Map                                              = gap.New
	_ func(m *gap.Map, at api.RID, used bool) (is bool)                     = (*gap.Map).Use
	_ func(m *gap.Map, who int, at api.RID) (holds bool)                    = (*gap.Map).Hold
	_ func(m *gap.Map, who int)                                             = (*gap.Map).Free
	_ func(m *gap.Map, from, to, cells, who int) (first api.RID, free bool) = (*gap.Map).Next
	_ func(m *gap.Map, from, to int) (n int)                                = (*gap.Map).Used
	_ func(m *gap.Map, from, to int) (n int)                                = (*gap.Map).Held
)

// people are numbers of who may hold a cell: any int is one.
var people = []int{0, 1, 2, 3, api.MaxTxns, api.MaxTxns + 1, -1, -2, 1 << 32, 1<<32 + 1, math.MinInt, math.MinInt + 1, math.MaxInt, math.MaxInt - 1}

// nobody holds anything in these tests.
const nobody = 99

// rid is a cell of a page.
func rid(page, cell int) api.RID {
	return api.RID{Page: page, Cell: cell}
}

// every returns all cells of pages, in ascending order.
func every(pages int) []api.RID {
	var l []api.RID
	for page := range pages {
		for c := range api.Cells {
			l = append(l, rid(page, c))
		}
	}
	return l
}

// outside returns places that a map of pages doesn't have.
func outside(pages int) []api.RID {
	var l []api.RID
	far := []int{-1, -2, -pages - 1, -api.Cells, -api.MaxPages, math.MinInt, math.MinInt + 1, -1 << 32, 1 << 31, 1 << 32, 1<<32 + 1, math.MaxInt - 1, math.MaxInt}
	for _, page := range append([]int{pages, pages + 1, pages + api.MaxPages, 256}, far...) {
		for c := -1; c <= api.Cells; c++ {
			l = append(l, rid(page, c))
		}
		l = append(l, rid(page, math.MinInt), rid(page, math.MaxInt))
	}
	for page := range pages {
		for _, c := range append([]int{api.Cells, api.Cells + 1, 2 * api.Cells, api.Cells * api.MaxPages, 256}, far...) {
			l = append(l, rid(page, c))
		}
	}
	return l
}

// given returns a map of so many pages with these cells in use.
func given(t *testing.T, pages int, used ...api.RID) *gap.Map {
	t.Helper()
	m := gap.New(pages)
	use(t, m, true, used...)
	return m
}

// use holds that Use takes these cells.
func use(t *testing.T, m *gap.Map, used bool, cells ...api.RID) {
	t.Helper()
	for _, at := range cells {
		if !m.Use(at, used) {
			t.Errorf("Use(%v, %t): false", at, used)
		}
	}
}

// hold holds that who gets these cells.
func hold(t *testing.T, m *gap.Map, who int, cells ...api.RID) {
	t.Helper()
	for _, at := range cells {
		if !m.Hold(who, at) {
			t.Errorf("Hold(%d, %v): false", who, at)
		}
	}
}

// refused holds that who doesn't get these cells.
func refused(t *testing.T, m *gap.Map, who int, cells ...api.RID) {
	t.Helper()
	for _, at := range cells {
		if m.Hold(who, at) {
			t.Errorf("Hold(%d, %v): true", who, at)
		}
	}
}

// wantNext holds that Next answers this cell, and that asking changes nothing.
func wantNext(t *testing.T, m *gap.Map, from, to, cells, who int, want api.RID) {
	t.Helper()
	for range 2 {
		if at, ok := m.Next(from, to, cells, who); at != want || !ok {
			t.Errorf("Next(%d, %d, %d, %d): %v, %t; asked for: %v, true", from, to, cells, who, at, ok, want)
		}
	}
}

// wantNone holds that Next answers that there is no cell.
func wantNone(t *testing.T, m *gap.Map, from, to, cells, who int) {
	t.Helper()
	for range 2 {
		if at, ok := m.Next(from, to, cells, who); at != rid(0, 0) || ok {
			t.Errorf("Next(%d, %d, %d, %d): %v, %t; asked for: none", from, to, cells, who, at, ok)
		}
	}
}

// wantCounts holds that so many cells of some pages are used, and so many are held but not used.
func wantCounts(t *testing.T, m *gap.Map, from, to, used, held int) {
	t.Helper()
	for range 2 {
		if got := m.Used(from, to); got != used {
			t.Errorf("Used(%d, %d): %d; asked for: %d", from, to, got, used)
		}
		if got := m.Held(from, to); got != held {
			t.Errorf("Held(%d, %d): %d; asked for: %d", from, to, got, held)
		}
	}
}

// wantFree holds that exactly these cells, in ascending order, may be given to who.
func wantFree(t *testing.T, m *gap.Map, who int, free ...api.RID) {
	t.Helper()
	is := map[api.RID]int{}
	for _, at := range free {
		is[at] = 1
	}
	for page := range api.MaxPages {
		for n := 1; n <= api.Cells; n++ {
			first, ok := firstOf(is, page, n)
			if at, there := m.Next(page, page+1, n, who); at != first || there != ok {
				t.Errorf("Next(%d, %d, %d, %d): %v, %t; asked for: %v, %t", page, page+1, n, who, at, there, first, ok)
			}
		}
	}
}

// firstOf returns the first one of those cells among the first n of a page.
func firstOf(is map[api.RID]int, page, n int) (api.RID, bool) {
	for c := range n {
		if is[rid(page, c)] > 0 {
			return rid(page, c), true
		}
	}
	return api.RID{}, false
}

// P15.1: New.

func TestNew(t *testing.T) {
	for _, pages := range []int{1, 2, 3, api.MaxPages/2 - 1, api.MaxPages / 2, api.MaxPages - 1, api.MaxPages} {
		m := gap.New(pages)
		wantCounts(t, m, 0, pages, 0, 0)
		wantCounts(t, m, math.MinInt, math.MaxInt, 0, 0)
		wantFree(t, m, nobody, every(pages)...)
		use(t, m, true, every(pages)...)
		wantCounts(t, m, 0, pages, pages*api.Cells, 0)
		wantCounts(t, m, math.MinInt, math.MaxInt, pages*api.Cells, 0)
		wantNone(t, m, math.MinInt, math.MaxInt, api.Cells, nobody)
	}
}

func TestNewOfNoPages(t *testing.T) {
	for _, pages := range []int{0, -1, -2, -api.MaxPages, -1 << 32, -1<<32 + 1, math.MinInt, math.MinInt + 1} {
		wantBare(t, gap.New(pages))
	}
}

func TestNewOfTooManyPages(t *testing.T) {
	for _, pages := range []int{api.MaxPages + 1, 99, 2 * api.MaxPages, 256, 1 << 31, 1 << 32, 1<<32 + 1, math.MaxInt - 1, math.MaxInt} {
		m := given(t, pages, every(api.MaxPages)...)
		hold(t, m, 1, every(api.MaxPages)...)
		for _, at := range outside(api.MaxPages) {
			if m.Use(at, true) || m.Use(at, false) || m.Hold(1, at) {
				t.Errorf("New(%d) has %v", pages, at)
			}
		}
		wantCounts(t, m, 0, pages, api.MaxPages*api.Cells, 0)
		wantNone(t, m, 0, pages, api.Cells, 1)
	}
}

// wantBare holds that a map has no cell, whatever is done.
func wantBare(t *testing.T, m *gap.Map) {
	t.Helper()
	for range 2 {
		for _, at := range append(every(2), outside(2)...) {
			if m.Use(at, true) || m.Use(at, false) || m.Hold(1, at) {
				t.Errorf("%v is there", at)
			}
		}
		m.Free(1)
		for _, to := range []int{-1, 0, 1, 9, math.MaxInt} {
			wantNone(t, m, 0, to, api.Cells, 1)
			wantNone(t, m, math.MinInt, to, math.MaxInt, 1)
			wantCounts(t, m, 0, to, 0, 0)
			wantCounts(t, m, math.MinInt, to, 0, 0)
		}
	}
}

// P15.1: Use.

func TestUseOfEachCell(t *testing.T) {
	cells := every(3)
	for i, at := range cells {
		m := given(t, 3, at)
		wantCounts(t, m, 0, 3, 1, 0)
		wantCounts(t, m, at.Page, at.Page+1, 1, 0)
		wantCounts(t, m, 0, at.Page, 0, 0)
		wantCounts(t, m, at.Page+1, 3, 0, 0)
		others := append(append([]api.RID{}, cells[:i]...), cells[i+1:]...)
		wantFree(t, m, nobody, others...)
		use(t, m, false, at)
		wantCounts(t, m, 0, 3, 0, 0)
		wantFree(t, m, nobody, cells...)
	}
}

func TestUseOfAllCells(t *testing.T) {
	cells := every(3)
	m := gap.New(3)
	for i, at := range cells {
		use(t, m, true, at)
		wantCounts(t, m, 0, 3, i+1, 0)
		wantFree(t, m, nobody, cells[i+1:]...)
	}
	for i, at := range cells {
		use(t, m, false, at)
		wantCounts(t, m, 0, 3, len(cells)-i-1, 0)
		wantFree(t, m, nobody, cells[:i+1]...)
	}
}

func TestUseOutside(t *testing.T) {
	for _, pages := range []int{1, 3, api.MaxPages} {
		m := given(t, pages, rid(0, 0), rid(pages-1, 3))
		hold(t, m, 2, rid(0, 1), rid(pages-1, 2))
		before := freeOf(m)
		for _, at := range outside(pages) {
			for _, used := range []bool{true, false, true} {
				if m.Use(at, used) {
					t.Errorf("of %d pages: Use(%v, %t): true", pages, at, used)
				}
			}
		}
		wantCounts(t, m, 0, pages, 2, 2)
		wantCounts(t, m, math.MinInt, math.MaxInt, 2, 2)
		wantFree(t, m, nobody, before...)
	}
}

// freeOf returns the cells that Next gives to nobody who holds one, each of them asked for one by one.
func freeOf(m *gap.Map) []api.RID {
	var l []api.RID
	for page := range api.MaxPages {
		for {
			at, ok := m.Next(page, page+1, api.Cells, nobody)
			if !ok {
				break
			}
			l = append(l, at)
			m.Use(at, true)
		}
	}
	for _, at := range l {
		m.Use(at, false)
	}
	return l
}

func TestUseFalseOfWhatWasNeverUsed(t *testing.T) {
	m := gap.New(2)
	use(t, m, false, every(2)...)
	wantCounts(t, m, 0, 2, 0, 0)
	wantFree(t, m, nobody, every(2)...)
	use(t, m, true, rid(1, 1))
	wantCounts(t, m, 0, 2, 1, 0)
}

func TestUseTwice(t *testing.T) {
	m := given(t, 2, rid(0, 0), rid(0, 0), rid(0, 0))
	wantCounts(t, m, 0, 2, 1, 0)
	use(t, m, false, rid(0, 0))
	wantCounts(t, m, 0, 2, 0, 0)
	wantNext(t, m, 0, 2, api.Cells, nobody, rid(0, 0))
	use(t, m, false, rid(0, 0))
	wantCounts(t, m, 0, 2, 0, 0)
	use(t, m, true, rid(0, 0))
	wantCounts(t, m, 0, 2, 1, 0)
	wantNext(t, m, 0, 2, api.Cells, nobody, rid(0, 1))
}

// Use is of the cell only: who holds it goes on holding it.
func TestUseOfWhatIsHeld(t *testing.T) {
	for _, used := range [][]bool{{true}, {false}, {true, false}, {true, true, false, false}} {
		m := gap.New(1)
		hold(t, m, 2, rid(0, 0))
		for _, is := range used {
			use(t, m, is, rid(0, 0))
		}
		refused(t, m, 1, rid(0, 0))
		hold(t, m, 2, rid(0, 0))
		wantFree(t, m, 1, every(1)[1:]...)
	}
}

// P15.1: Hold.

func TestHoldOfEachCell(t *testing.T) {
	cells := every(3)
	for i, at := range cells {
		m := gap.New(3)
		hold(t, m, 2, at)
		wantCounts(t, m, 0, 3, 0, 1)
		wantCounts(t, m, at.Page, at.Page+1, 0, 1)
		wantCounts(t, m, 0, at.Page, 0, 0)
		wantCounts(t, m, at.Page+1, 3, 0, 0)
		others := append(append([]api.RID{}, cells[:i]...), cells[i+1:]...)
		wantFree(t, m, 1, others...)
		wantFree(t, m, 2, cells...)
		refused(t, m, 1, at)
		hold(t, m, 1, others...)
		wantFree(t, m, 2, at)
	}
}

func TestHoldOutside(t *testing.T) {
	for _, pages := range []int{1, 3, api.MaxPages} {
		m := given(t, pages, rid(0, 0), rid(pages-1, 3))
		hold(t, m, 2, rid(0, 1), rid(pages-1, 2))
		before := freeOf(m)
		refused(t, m, 1, outside(pages)...)
		refused(t, m, 2, outside(pages)...)
		wantCounts(t, m, 0, pages, 2, 2)
		wantCounts(t, m, math.MinInt, math.MaxInt, 2, 2)
		wantFree(t, m, nobody, before...)
		wantFree(t, m, 1, before...)
	}
}

func TestHoldTwice(t *testing.T) {
	m := gap.New(1)
	hold(t, m, 2, rid(0, 0), rid(0, 0), rid(0, 0))
	wantCounts(t, m, 0, 1, 0, 1)
	refused(t, m, 1, rid(0, 0))
	m.Free(2)
	wantCounts(t, m, 0, 1, 0, 0)
	hold(t, m, 1, rid(0, 0))
	refused(t, m, 2, rid(0, 0))
}

func TestHoldByAnotherOne(t *testing.T) {
	m := gap.New(1)
	hold(t, m, 2, rid(0, 1))
	for range 2 {
		refused(t, m, 1, rid(0, 1))
		wantCounts(t, m, 0, 1, 0, 1)
		wantFree(t, m, 1, rid(0, 0), rid(0, 2), rid(0, 3))
		wantFree(t, m, 2, every(1)...)
	}
	m.Free(1) // who was refused holds nothing
	refused(t, m, 1, rid(0, 1))
	wantCounts(t, m, 0, 1, 0, 1)
}

func TestHoldOfWhatIsUsed(t *testing.T) {
	m := given(t, 1, rid(0, 0))
	hold(t, m, 2, rid(0, 0))
	wantCounts(t, m, 0, 1, 1, 0)
	refused(t, m, 1, rid(0, 0))
	wantFree(t, m, 1, every(1)[1:]...)
	wantFree(t, m, 2, every(1)[1:]...)
	use(t, m, false, rid(0, 0))
	wantCounts(t, m, 0, 1, 0, 1)
	wantFree(t, m, 1, every(1)[1:]...)
	wantFree(t, m, 2, every(1)...)
}

func TestHoldByEverybody(t *testing.T) {
	for i, who := range people {
		m := gap.New(api.MaxPages)
		hold(t, m, who, rid(1, 2))
		for j, other := range people {
			if i == j {
				hold(t, m, other, rid(1, 2))
				wantNext(t, m, 1, 2, api.Cells, other, rid(1, 0))
			} else {
				refused(t, m, other, rid(1, 2))
				m.Free(other)
			}
			wantCounts(t, m, 0, api.MaxPages, 0, 1)
		}
		m.Free(who)
		wantCounts(t, m, 0, api.MaxPages, 0, 0)
	}
}

func TestPeopleHoldCellsOfTheirOwn(t *testing.T) {
	m := gap.New(api.MaxPages)
	cells := every(api.MaxPages)
	for i, who := range people {
		hold(t, m, who, cells[i])
	}
	for i, who := range people {
		wantNext(t, m, 0, api.MaxPages, api.Cells, who, cells[i])
		for j := range people {
			if i != j {
				refused(t, m, who, cells[j])
			}
		}
	}
	for i, who := range people {
		m.Free(who)
		wantCounts(t, m, 0, api.MaxPages, 0, len(people)-i-1)
		wantNext(t, m, 0, api.MaxPages, api.Cells, nobody, cells[0])
	}
}

// P15.1: Free.

func TestFreeOfOneWhoHoldsNothing(t *testing.T) {
	m := given(t, 2, rid(0, 0))
	hold(t, m, 2, rid(0, 1), rid(1, 3))
	for _, who := range people {
		if who != 2 {
			m.Free(who)
		}
	}
	wantCounts(t, m, 0, 2, 1, 2)
	wantFree(t, m, 1, rid(0, 2), rid(0, 3), rid(1, 0), rid(1, 1), rid(1, 2))
}

func TestFreeOfOneCell(t *testing.T) {
	for _, at := range every(3) {
		m := gap.New(3)
		hold(t, m, 2, at)
		m.Free(2)
		wantCounts(t, m, 0, 3, 0, 0)
		wantFree(t, m, 1, every(3)...)
		m.Free(2)
		wantCounts(t, m, 0, 3, 0, 0)
		hold(t, m, 1, at)
	}
}

func TestFreeOfManyCells(t *testing.T) {
	m := gap.New(api.MaxPages)
	cells := every(api.MaxPages)
	for i, at := range cells {
		hold(t, m, i%3, at)
	}
	wantNone(t, m, 0, api.MaxPages, api.Cells, nobody)
	m.Free(1)
	for i, at := range cells {
		if i%3 == 1 {
			hold(t, m, nobody, at)
		} else {
			refused(t, m, nobody, at)
			hold(t, m, i%3, at)
		}
	}
	m.Free(nobody)
	m.Free(0)
	wantCounts(t, m, 0, api.MaxPages, 0, len(cells)/3)
	m.Free(2)
	wantCounts(t, m, 0, api.MaxPages, 0, 0)
	wantFree(t, m, nobody, cells...)
}

// Free is of what is held only: what is used goes on being used.
func TestFreeOfWhatIsUsed(t *testing.T) {
	m := given(t, 1, rid(0, 0), rid(0, 2))
	hold(t, m, 2, rid(0, 0), rid(0, 1))
	m.Free(2)
	wantCounts(t, m, 0, 1, 2, 0)
	wantFree(t, m, 2, rid(0, 1), rid(0, 3))
	hold(t, m, 1, rid(0, 0))
}

// P15.1: Next.

func TestNextGoesByPageAndThenByCell(t *testing.T) {
	m := gap.New(3)
	for _, at := range every(3) {
		wantNext(t, m, 0, 3, api.Cells, nobody, at)
		use(t, m, true, at)
	}
	wantNone(t, m, 0, 3, api.Cells, nobody)
	use(t, m, false, rid(2, 0))
	use(t, m, false, rid(1, 3))
	wantNext(t, m, 0, 3, api.Cells, nobody, rid(1, 3))
	wantNext(t, m, 0, 3, api.Cells-1, nobody, rid(2, 0))
	use(t, m, false, rid(1, 2))
	wantNext(t, m, 0, 3, api.Cells, nobody, rid(1, 2))
}

func TestNextOutOfBounds(t *testing.T) {
	below := []int{-1, -2, -5, -api.MaxPages, -1 << 32, math.MinInt, math.MinInt + 1}
	beyond := []int{3, 4, 9, api.MaxPages, 99, 1 << 31, 1 << 32, 1<<32 + 1, math.MaxInt - 1, math.MaxInt}
	m := given(t, 3, every(3)[:5]...)
	for _, from := range append(below, 0, 1) {
		for _, to := range append([]int{2}, beyond...) {
			wantNext(t, m, from, to, api.Cells, nobody, rid(1, 1))
		}
		for _, to := range append(below, 0, 1) {
			wantNone(t, m, from, to, api.Cells, nobody)
		}
	}
	for _, to := range beyond {
		wantNext(t, m, 2, to, api.Cells, nobody, rid(2, 0))
		for _, from := range beyond {
			wantNone(t, m, from, to, api.Cells, nobody)
		}
	}
}

func TestNextOfNoPages(t *testing.T) {
	m := gap.New(3)
	for from := range 4 {
		for to := range from + 1 {
			wantNone(t, m, from, to, api.Cells, nobody)
		}
	}
	wantNone(t, m, math.MaxInt, math.MinInt, api.Cells, nobody)
	wantNone(t, m, 3, -1, api.Cells, nobody)
}

func TestNextOfSomeCells(t *testing.T) {
	m := gap.New(3)
	for _, cells := range []int{0, -1, -2, -api.Cells, -1 << 32, -1<<32 + 1, math.MinInt, math.MinInt + 1} {
		wantNone(t, m, 0, 3, cells, nobody)
	}
	for _, cells := range []int{1, 2, 3, api.Cells, api.Cells + 1, 2 * api.Cells, 256, 1 << 32, math.MaxInt - 1, math.MaxInt} {
		wantNext(t, m, 0, 3, cells, nobody, rid(0, 0))
	}
	for used := 1; used < api.Cells; used++ {
		use(t, m, true, rid(0, used-1))
		for cells := 1; cells <= used; cells++ {
			wantNext(t, m, 0, 3, cells, nobody, rid(1, 0))
			wantNone(t, m, 0, 1, cells, nobody)
		}
		for _, cells := range []int{used + 1, api.Cells, api.Cells + 1, math.MaxInt} {
			wantNext(t, m, 0, 3, cells, nobody, rid(0, used))
		}
	}
	use(t, m, true, every(3)...)
	for _, cells := range []int{api.Cells, api.Cells + 1, 3 * api.Cells, math.MaxInt} {
		wantNone(t, m, 0, 3, cells, nobody)
	}
}

func TestNextByWhoHoldsAndByOthers(t *testing.T) {
	for _, who := range people {
		m := gap.New(2)
		hold(t, m, who, rid(0, 0), rid(1, 1))
		for _, other := range people {
			if other != who {
				wantNext(t, m, 0, 2, api.Cells, other, rid(0, 1))
				wantNext(t, m, 0, 2, 1, other, rid(1, 0))
				wantNone(t, m, 0, 1, 1, other)
			}
		}
		wantNext(t, m, 0, 2, api.Cells, who, rid(0, 0))
		use(t, m, true, rid(1, 0))
		wantNext(t, m, 1, 2, api.Cells, who, rid(1, 1))
		wantNext(t, m, 1, 2, api.Cells, nobody, rid(1, 2))
	}
}

func TestNextWithAllCellsUsedOrHeld(t *testing.T) {
	m := gap.New(3)
	for i, at := range every(3) {
		if i%2 == 0 {
			use(t, m, true, at)
		} else {
			hold(t, m, 2, at)
		}
	}
	wantNone(t, m, 0, 3, api.Cells, 1)
	wantNone(t, m, 2, 3, api.Cells, 1)
	wantNext(t, m, 0, 3, api.Cells, 2, rid(0, 1))
	wantNext(t, m, 2, 3, api.Cells, 2, rid(2, 1))
	use(t, m, true, every(3)...)
	wantNone(t, m, 0, 3, api.Cells, 2)
}

// TestNextChangesNothing holds that who asks for a cell doesn't get it by that.
func TestNextChangesNothing(t *testing.T) {
	m := given(t, 3, rid(0, 0))
	hold(t, m, 2, rid(0, 1))
	for range 3 {
		for _, who := range people {
			m.Next(0, 3, api.Cells, who)
			m.Next(-1, 99, 99, who)
			m.Next(0, 0, 0, who)
		}
		wantCounts(t, m, 0, 3, 1, 1)
		wantFree(t, m, 1, every(3)[2:]...)
		wantFree(t, m, 2, every(3)[1:]...)
	}
	hold(t, m, 1, every(3)[2:]...)
}

// A cell that somebody holds is not given to others.

func TestWhatIsHeldIsNotGivenToOthers(t *testing.T) {
	m := gap.New(3)
	for i, want := range every(3) {
		at, ok := m.Next(0, 3, api.Cells, i)
		if !ok || at != want {
			t.Errorf("Next of %d: %v, %t; asked for: %v", i, at, ok, want)
		}
		hold(t, m, i, at)
		wantNext(t, m, 0, 3, api.Cells, i, at)
	}
	wantNone(t, m, 0, 3, api.Cells, nobody)
	for i, at := range every(3) {
		wantNext(t, m, 0, 3, api.Cells, i, at)
		refused(t, m, nobody, at)
	}
}

// P15.1: Used, Held.

func TestCountsOfSomePages(t *testing.T) {
	m := given(t, 4, rid(0, 0), rid(1, 0), rid(1, 3), rid(3, 2))
	hold(t, m, 2, rid(0, 1), rid(2, 0), rid(2, 1))
	hold(t, m, 1, rid(2, 3), rid(3, 0), rid(3, 1))
	used, held := []int{1, 2, 0, 1}, []int{1, 0, 3, 2}
	for from := -2; from <= 6; from++ {
		for to := -2; to <= 6; to++ {
			u, h := 0, 0
			for page := range 4 {
				if page >= from && page < to {
					u += used[page]
					h += held[page]
				}
			}
			wantCounts(t, m, from, to, u, h)
		}
	}
	for _, from := range []int{-1 << 32, math.MinInt, math.MinInt + 1} {
		for _, to := range []int{api.MaxPages, 1 << 31, 1 << 32, math.MaxInt - 1, math.MaxInt} {
			wantCounts(t, m, from, to, 4, 6)
			wantCounts(t, m, 3, to, 1, 2)
			wantCounts(t, m, from, 1, 1, 1)
			wantCounts(t, m, to, from, 0, 0)
			wantCounts(t, m, to, to, 0, 0)
			wantCounts(t, m, from, from, 0, 0)
			wantCounts(t, m, 4, to, 0, 0)
			wantCounts(t, m, from, 0, 0, 0)
		}
	}
}

func TestWhatIsUsedAndHeldCountsAsUsed(t *testing.T) {
	m := given(t, 2, rid(0, 0))
	hold(t, m, 2, rid(0, 0), rid(0, 1), rid(1, 0))
	wantCounts(t, m, 0, 2, 1, 2)
	use(t, m, true, rid(0, 1))
	wantCounts(t, m, 0, 2, 2, 1)
	use(t, m, true, rid(1, 0))
	wantCounts(t, m, 0, 2, 3, 0)
	use(t, m, false, rid(0, 0))
	wantCounts(t, m, 0, 2, 2, 1)
	m.Free(2)
	wantCounts(t, m, 0, 2, 2, 0)
}

// The example of the chapter, and what holds for every object.

func TestExample(t *testing.T) {
	m := given(t, 3, rid(0, 0))
	hold(t, m, 2, rid(0, 1))
	wantNext(t, m, 0, 3, 4, 1, rid(0, 2))
	wantNext(t, m, 0, 3, 4, 2, rid(0, 1))
}

func TestNilMap(t *testing.T) {
	var m *gap.Map
	wantBare(t, m)
	for _, who := range people {
		m.Free(who)
		wantNone(t, m, 0, 9, 4, who)
		refused(t, m, who, rid(0, 0))
	}
	if m != nil {
		t.Error("a nil map is none any more")
	}
}

func TestZeroValue(t *testing.T) {
	var m gap.Map
	wantBare(t, &m)
	wantBare(t, new(gap.Map))
}

func TestCopyOfAMapIsTheSameMap(t *testing.T) {
	m := gap.New(2)
	before := *m
	use(t, m, true, rid(0, 0))
	hold(t, &before, 2, rid(0, 1))
	after := *m
	use(t, &after, true, rid(1, 3))
	for _, one := range []*gap.Map{m, &before, &after} {
		wantCounts(t, one, 0, 2, 2, 1)
		wantFree(t, one, 1, rid(0, 2), rid(0, 3), rid(1, 0), rid(1, 1), rid(1, 2))
	}
	before.Free(2)
	use(t, &after, false, rid(0, 0))
	for _, one := range []*gap.Map{m, &before, &after} {
		wantCounts(t, one, 0, 2, 1, 0)
	}
}

func TestTwoMapsAreApart(t *testing.T) {
	a, b := gap.New(2), gap.New(2)
	use(t, a, true, rid(0, 0))
	hold(t, a, 2, rid(0, 1))
	wantCounts(t, b, 0, 2, 0, 0)
	wantFree(t, b, 1, every(2)...)
	hold(t, b, 2, rid(1, 0))
	hold(t, b, 1, rid(0, 1))
	use(t, b, true, rid(1, 1))
	wantCounts(t, a, 0, 2, 1, 1)
	a.Free(1)
	a.Free(2)
	use(t, a, false, rid(1, 1))
	wantCounts(t, a, 0, 2, 1, 0)
	wantCounts(t, b, 0, 2, 1, 2)
}
