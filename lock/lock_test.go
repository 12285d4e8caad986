package lock_test

import (
	"math"
	"math/bits"
	"slices"
	"strconv"
	"strings"
	"testing"
	"unsafe"

	"whim/api"
	"whim/lock"
)

// The face, as the chapter lists it.
var (
	_ func() *lock.Table                                                          = lock.New
	_ func(t *lock.Table, who int, what string, mode int) (others []int, ok bool) = (*lock.Table).Ask
	_ func(t *lock.Table, who int)                                                = (*lock.Table).Free
	_ func(t *lock.Table, who int, what string) int                               = (*lock.Table).Held
	_ func(t *lock.Table, what string) []int                                      = (*lock.Table).Holders
	_ func(t *lock.Table, who int) []string                                       = (*lock.Table).Locks
)

const (
	none = api.ModeNone
	is   = api.ModeIS
	ix   = api.ModeIX
	s    = api.ModeS
	x    = api.ModeX
)

// modes are those that may be held.
var modes = []int{is, ix, s, x}

// together tells which modes two may hold on the same thing.
var together = [5][5]bool{
	none: {none: true, is: true, ix: true, s: true, x: true},
	is:   {none: true, is: true, ix: true, s: true},
	ix:   {none: true, is: true, ix: true},
	s:    {none: true, is: true, s: true},
	x:    {none: true},
}

// least has the least mode that is at least both.
var least = [5][5]int{
	none: {none, is, ix, s, x},
	is:   {is, is, ix, s, x},
	ix:   {ix, ix, ix, x, x},
	s:    {s, s, x, s, x},
	x:    {x, x, x, x, x},
}

// people are some who may ask, and names some things that they may ask for.
var (
	people = []int{math.MinInt, math.MinInt + 1, -256, -10, -9, -1, 0, 1, 2, 3, 9, 10, 256, 1 << 32, math.MaxInt - 1, math.MaxInt}
	names  = []string{"", "\x00", "\x00\x00", "\x00a", "\x01", "A", "a", "a\x00", "a\x00b", "aa", "ab", "b", "e\u0301", "\x7f", "\x80", "\x80a", "\xc3", "\xc3\xa9", "\xe9", "\xef\xbf\xbd", "\xfe", "\xff", "\xff\x00", "\xff\xff"}
)

// noModes are what may not be asked for: none, numbers next to the modes, the farthest ones, and those that are a mode once some of their upper bits are lost.
func noModes() []int {
	l := []int{none, -1, 5, math.MinInt, math.MaxInt, 6, 7, -2, -3, -4, -5, math.MinInt + 1, math.MaxInt - 1}
	for up := 3; up < bits.UintSize; up++ {
		for m := none; m <= x; m++ {
			l = append(l, m+1<<up, m-1<<up)
		}
	}
	return l
}

// lone is what somebody holds.
type lone struct {
	who  int
	what string
	mode int
}

// given returns a table in which these are held.
func given(t *testing.T, all ...lone) *lock.Table {
	t.Helper()
	y := lock.New()
	for _, l := range all {
		wantYes(t, y, l.who, l.what, l.mode)
	}
	return y
}

// wantYes holds that one gets what it asks for.
func wantYes(t *testing.T, y *lock.Table, who int, what string, mode int) {
	t.Helper()
	if others, ok := y.Ask(who, what, mode); len(others) != 0 || !ok {
		t.Errorf("Ask(%d, %q, %d): %d, %t; asked for: true", who, what, mode, others, ok)
	}
}

// wantNo holds that one does not get what it asks for because of the others, of whom there may be none, and that nothing changes.
func wantNo(t *testing.T, y *lock.Table, who int, what string, mode int, others ...int) {
	t.Helper()
	before := told(y, who, what)
	if got, ok := y.Ask(who, what, mode); !slices.Equal(got, others) || ok {
		t.Errorf("Ask(%d, %q, %d): %d, %t; asked for: %d, false", who, what, mode, got, ok, others)
	}
	if after := told(y, who, what); after != before {
		t.Errorf("Ask(%d, %q, %d) is refused, and changes\n%s into\n%s", who, what, mode, before, after)
	}
}

// told is all that a table tells of some, of who among them, and of some names, what among them.
func told(y *lock.Table, who int, what string) string {
	var b strings.Builder
	for _, n := range append([]string{what}, names...) {
		b.WriteString(strconv.Quote(n) + ":")
		for _, p := range y.Holders(n) {
			b.WriteString(" " + strconv.Itoa(p))
		}
		for _, p := range append([]int{who}, people...) {
			b.WriteString(" " + strconv.Itoa(y.Held(p, n)))
		}
		b.WriteString("\n")
	}
	for _, p := range append([]int{who}, people...) {
		b.WriteString(strconv.Itoa(p) + ":")
		for _, n := range y.Locks(p) {
			b.WriteString(" " + strconv.Quote(n))
		}
		b.WriteString("\n")
	}
	return b.String()
}

func wantHeld(t *testing.T, y *lock.Table, who int, what string, mode int) {
	t.Helper()
	if got := y.Held(who, what); got != mode {
		t.Errorf("Held(%d, %q): %d; asked for: %d", who, what, got, mode)
	}
}

func wantHolders(t *testing.T, y *lock.Table, what string, who ...int) {
	t.Helper()
	if got := y.Holders(what); !slices.Equal(got, who) {
		t.Errorf("Holders(%q): %d; asked for: %d", what, got, who)
	}
}

func wantLocks(t *testing.T, y *lock.Table, who int, what ...string) {
	t.Helper()
	if got := y.Locks(who); !slices.Equal(got, what) {
		t.Errorf("Locks(%d): %q; asked for: %q", who, got, what)
	}
}

// wantAll holds that exactly these are held, as far as they are of people and names.
func wantAll(t *testing.T, y *lock.Table, all ...lone) {
	t.Helper()
	for _, n := range names {
		var who []int
		for _, p := range people {
			mode := none
			if i := slices.IndexFunc(all, func(l lone) bool { return l.who == p && l.what == n }); i >= 0 {
				mode = all[i].mode
				who = append(who, p)
			}
			wantHeld(t, y, p, n, mode)
		}
		slices.Sort(who)
		wantHolders(t, y, n, who...)
	}
	for _, p := range people {
		var what []string
		for _, l := range all {
			if l.who == p {
				what = append(what, l.what)
			}
		}
		slices.Sort(what)
		wantLocks(t, y, p, what...)
	}
}

// P12.1 Ask

func TestExample(t *testing.T) {
	y := given(t, lone{1, "a", s}, lone{2, "a", s})
	wantNo(t, y, 3, "a", x, 1, 2)
	wantAll(t, y, lone{1, "a", s}, lone{2, "a", s})
}

func TestNewHasNothing(t *testing.T) {
	wantAll(t, lock.New())
}

func TestAskWhereNobodyHoldsAnything(t *testing.T) {
	for _, m := range modes {
		for _, p := range people {
			for _, n := range names {
				y := lock.New()
				wantYes(t, y, p, n, m)
				wantHeld(t, y, p, n, m)
				wantHolders(t, y, n, p)
				wantLocks(t, y, p, n)
			}
		}
		y := given(t, lone{1, "a", m})
		wantAll(t, y, lone{1, "a", m})
	}
}

func TestAskOfEveryTwoModes(t *testing.T) {
	for _, held := range modes {
		for _, asked := range modes {
			for _, two := range [][2]int{{1, 2}, {2, 1}, {-1, 0}, {0, -1}, {math.MinInt, math.MaxInt}, {math.MaxInt, math.MinInt}} {
				one, other := two[0], two[1]
				y := given(t, lone{one, "a", held})
				if together[held][asked] {
					wantYes(t, y, other, "a", asked)
					wantAll(t, y, lone{one, "a", held}, lone{other, "a", asked})
				} else {
					wantNo(t, y, other, "a", asked, one)
					wantAll(t, y, lone{one, "a", held})
				}
			}
		}
	}
}

func TestWhatIsHeldOnOtherNamesIsNotInTheWay(t *testing.T) {
	for _, held := range modes {
		for _, asked := range modes {
			y := given(t, lone{1, "a", held}, lone{2, "b", asked}, lone{2, "", asked})
			wantAll(t, y, lone{1, "a", held}, lone{2, "b", asked}, lone{2, "", asked})
			// Nor does what one holds on another name count for the join.
			wantYes(t, y, 1, "ab", asked)
			wantHeld(t, y, 1, "ab", asked)
			wantHeld(t, y, 1, "a", held)
		}
	}
}

func TestAskByWhoHoldsAModeAlready(t *testing.T) {
	for _, p := range people {
		for _, held := range modes {
			for _, asked := range modes {
				y := given(t, lone{p, "a", held}, lone{p, "a", asked})
				wantAll(t, y, lone{p, "a", least[held][asked]})
				for _, third := range modes {
					z := given(t, lone{p, "a", held}, lone{p, "a", asked}, lone{p, "a", third})
					wantHeld(t, z, p, "a", least[least[held][asked]][third])
				}
			}
		}
	}
}

func TestTheJoinIsWhatIsAskedFor(t *testing.T) {
	for _, held := range modes {
		for _, other := range modes {
			if !together[held][other] {
				continue
			}
			for _, asked := range modes {
				y := given(t, lone{1, "a", held}, lone{2, "a", other})
				if m := least[held][asked]; together[other][m] {
					wantYes(t, y, 1, "a", asked)
					wantAll(t, y, lone{1, "a", m}, lone{2, "a", other})
				} else {
					wantNo(t, y, 1, "a", asked, 2)
					wantAll(t, y, lone{1, "a", held}, lone{2, "a", other})
				}
			}
		}
	}
}

// Both modes go with what the other one holds, but not their join.
func TestAskThatOnlyTheJoinKeepsFromBeingGranted(t *testing.T) {
	for _, two := range [][2]int{{ix, s}, {s, ix}} {
		y := given(t, lone{1, "a", two[0]}, lone{2, "a", is})
		wantNo(t, y, 1, "a", two[1], 2)
		wantAll(t, y, lone{1, "a", two[0]}, lone{2, "a", is})
		y.Free(2)
		wantYes(t, y, 1, "a", two[1])
		wantAll(t, y, lone{1, "a", x})
		wantNo(t, y, 2, "a", is, 1)
	}
}

func TestWhoHoldsMuchIsNotInItsOwnWay(t *testing.T) {
	y := given(t, lone{1, "a", x}, lone{1, "b", ix}, lone{2, "b", ix})
	for _, m := range modes {
		wantYes(t, y, 1, "a", m)
		wantHeld(t, y, 1, "a", x)
	}
	wantYes(t, y, 1, "b", is)
	wantYes(t, y, 1, "b", ix)
	wantNo(t, y, 1, "b", s, 2)
	wantNo(t, y, 1, "b", x, 2)
	wantAll(t, y, lone{1, "a", x}, lone{1, "b", ix}, lone{2, "b", ix})
}

func TestRefusalNamesAllInTheWayAndNoOthers(t *testing.T) {
	y := given(t,
		lone{10, "a", is}, lone{-1, "a", ix}, lone{2, "a", is}, lone{math.MaxInt, "a", ix}, lone{9, "a", ix}, lone{-10, "a", is},
		lone{0, "a", ix}, lone{math.MinInt, "a", ix}, lone{1, "a", is}, lone{-9, "a", ix}, lone{3, "b", x}, lone{256, "", s})
	before := told(y, 5, "a")
	// Of those who hold ix and is, only the former are in the way of s.
	wantNo(t, y, 5, "a", s, math.MinInt, -9, -1, 0, 9, math.MaxInt)
	wantNo(t, y, 5, "a", x, math.MinInt, -10, -9, -1, 0, 1, 2, 9, 10, math.MaxInt)
	// Who asks isn't one of the others.
	wantNo(t, y, -10, "a", s, math.MinInt, -9, -1, 0, 9, math.MaxInt)
	wantNo(t, y, 9, "a", s, math.MinInt, -10, -9, -1, 0, 1, 2, 10, math.MaxInt)
	wantNo(t, y, math.MinInt, "a", x, -10, -9, -1, 0, 1, 2, 9, 10, math.MaxInt)
	wantNo(t, y, math.MaxInt, "a", x, math.MinInt, -10, -9, -1, 0, 1, 2, 9, 10)
	wantNo(t, y, 3, "a", x, math.MinInt, -10, -9, -1, 0, 1, 2, 9, 10, math.MaxInt)
	if after := told(y, 5, "a"); after != before {
		t.Errorf("refusals change\n%s into\n%s", before, after)
	}
	// Who is let in is in the way of the next one.
	wantYes(t, y, 5, "a", ix)
	wantNo(t, y, 3, "a", s, math.MinInt, -9, -1, 0, 5, 9, math.MaxInt)
	// Who holds s is in the way of ix, and who holds is is not.
	z := given(t, lone{4, "a", s}, lone{-4, "a", s}, lone{3, "a", is}, lone{-3, "a", is}, lone{-300, "a", s})
	wantNo(t, z, 0, "a", ix, -300, -4, 4)
	wantNo(t, z, 3, "a", ix, -300, -4, 4)
	wantNo(t, z, 4, "a", ix, -300, -4, -3, 3)
}

func TestManyAreInAscendingOrder(t *testing.T) {
	const n, half = 1009, 504
	y := lock.New()
	var all, those []int
	for i := range n {
		who := i*331%n - half
		m := is + i%2
		wantYes(t, y, who, "a", m)
		all = append(all, who)
		if m == ix {
			those = append(those, who)
		}
		wantYes(t, y, 1, "k"+strconv.Itoa(who), x)
	}
	slices.Sort(all)
	slices.Sort(those)
	for range 3 {
		wantHolders(t, y, "a", all...)
		wantNo(t, y, n, "a", s, those...)
		wantNo(t, y, n, "a", x, all...)
	}
	what := []string{"a"}
	for who := -half; who <= half; who++ {
		what = append(what, "k"+strconv.Itoa(who))
	}
	slices.Sort(what)
	wantLocks(t, y, 1, what...)
}

func TestAskForWhatMayNotBeAsked(t *testing.T) {
	for _, m := range noModes() {
		y := lock.New()
		wantNo(t, y, 1, "a", m)
		wantNo(t, y, 1, "", m)
		wantAll(t, y)
		for _, held := range modes {
			y := given(t, lone{1, "a", held})
			// By who holds something, by another one, and for another name: nobody is in the way.
			wantNo(t, y, 1, "a", m)
			wantNo(t, y, 2, "a", m)
			wantNo(t, y, 1, "b", m)
			wantHeld(t, y, 1, "a", held)
			wantHolders(t, y, "a", 1)
			wantLocks(t, y, 1, "a")
		}
		y = given(t, lone{1, "a", ix}, lone{2, "a", ix}, lone{3, "a", is})
		wantNo(t, y, 1, "a", m)
		wantNo(t, y, 4, "a", m)
		wantAll(t, y, lone{1, "a", ix}, lone{2, "a", ix}, lone{3, "a", is})
	}
}

func TestNamesAreToldApartByTheirBytes(t *testing.T) {
	long := strings.Repeat("\x00", 1<<16)
	all := append(append([]string{}, names...), long, long+"\x00", long+"a", long+"b", "a"+long, "b"+long)
	y := lock.New()
	for i, n := range all {
		wantYes(t, y, i, n, x)
		wantYes(t, y, -1, "key "+n, s)
	}
	for i, n := range all {
		wantHolders(t, y, n, i)
		wantLocks(t, y, i, n)
		if others, ok := y.Ask(-1, n, is); ok || !slices.Equal(others, []int{i}) {
			t.Errorf("Ask for name %d: %d, %t", i, others, ok)
		}
	}
	slices.Sort(all)
	for i, n := range all {
		all[i] = "key " + n
	}
	wantLocks(t, y, -1, all...)
}

func TestBytesOfAnyValueInNames(t *testing.T) {
	y := lock.New()
	var all []string
	for c := range 256 {
		one := string([]byte{byte(c)})
		for _, n := range []string{one, "a" + one, one + "a", one + one} {
			if y.Held(1, n) == none {
				all = append(all, n)
			}
			wantYes(t, y, 1, n, is)
		}
	}
	slices.Sort(all)
	if len(all) != 4*256-2 { // "aa" comes up three times
		t.Errorf("%d names", len(all))
	}
	wantLocks(t, y, 1, all...)
}

// P12.1 Free

func TestFree(t *testing.T) {
	y := given(t, lone{1, "a", ix}, lone{1, "", is}, lone{1, "\xff", x}, lone{2, "a", ix}, lone{2, "b", x}, lone{-1, "a", is}, lone{0, "\x00", s})
	// Of who holds nothing.
	y.Free(3)
	y.Free(math.MinInt)
	y.Free(math.MaxInt)
	wantAll(t, y, lone{1, "a", ix}, lone{1, "", is}, lone{1, "\xff", x}, lone{2, "a", ix}, lone{2, "b", x}, lone{-1, "a", is}, lone{0, "\x00", s})
	// Of who holds several things.
	y.Free(1)
	wantAll(t, y, lone{2, "a", ix}, lone{2, "b", x}, lone{-1, "a", is}, lone{0, "\x00", s})
	y.Free(1)
	wantAll(t, y, lone{2, "a", ix}, lone{2, "b", x}, lone{-1, "a", is}, lone{0, "\x00", s})
	// Of who holds one thing.
	y.Free(-1)
	wantAll(t, y, lone{2, "a", ix}, lone{2, "b", x}, lone{0, "\x00", s})
	y.Free(0)
	wantAll(t, y, lone{2, "a", ix}, lone{2, "b", x})
	// Of the last one.
	y.Free(2)
	wantAll(t, y)
	y.Free(2)
	wantAll(t, y)
}

func TestFreeOfANewTable(t *testing.T) {
	y := lock.New()
	for _, p := range people {
		y.Free(p)
	}
	wantAll(t, y)
	wantYes(t, y, 1, "a", x)
	wantAll(t, y, lone{1, "a", x})
}

func TestWhatWasReleasedIsNotInTheWay(t *testing.T) {
	for _, held := range modes {
		for _, asked := range modes {
			y := given(t, lone{1, "a", held}, lone{1, "b", held})
			y.Free(1)
			wantYes(t, y, 2, "a", asked)
			wantAll(t, y, lone{2, "a", asked})
			// Nor does it count for the join.
			wantYes(t, y, 1, "b", asked)
			wantAll(t, y, lone{2, "a", asked}, lone{1, "b", asked})
		}
	}
	y := given(t, lone{1, "a", s}, lone{2, "a", s}, lone{3, "a", is})
	wantNo(t, y, 3, "a", x, 1, 2)
	y.Free(1)
	wantNo(t, y, 3, "a", x, 2)
	y.Free(2)
	wantYes(t, y, 3, "a", x)
	wantNo(t, y, 1, "a", is, 3)
	wantAll(t, y, lone{3, "a", x})
}

// P12.1 Held, Holders, Locks

func TestListsStepByStep(t *testing.T) {
	y := lock.New()
	wantYes(t, y, 2, "b", is)
	wantAll(t, y, lone{2, "b", is})
	wantYes(t, y, 2, "a", s)
	wantAll(t, y, lone{2, "b", is}, lone{2, "a", s})
	wantYes(t, y, -1, "a", is)
	wantAll(t, y, lone{2, "b", is}, lone{2, "a", s}, lone{-1, "a", is})
	wantYes(t, y, -1, "b", ix)
	wantAll(t, y, lone{2, "b", is}, lone{2, "a", s}, lone{-1, "a", is}, lone{-1, "b", ix})
	wantNo(t, y, 2, "b", s, -1)
	wantAll(t, y, lone{2, "b", is}, lone{2, "a", s}, lone{-1, "a", is}, lone{-1, "b", ix})
	wantYes(t, y, 2, "b", ix)
	wantAll(t, y, lone{2, "b", ix}, lone{2, "a", s}, lone{-1, "a", is}, lone{-1, "b", ix})
	wantYes(t, y, 1, "", x)
	wantAll(t, y, lone{2, "b", ix}, lone{2, "a", s}, lone{-1, "a", is}, lone{-1, "b", ix}, lone{1, "", x})
	y.Free(2)
	wantAll(t, y, lone{-1, "a", is}, lone{-1, "b", ix}, lone{1, "", x})
	wantYes(t, y, -1, "a", ix)
	wantYes(t, y, -1, "a", s)
	wantAll(t, y, lone{-1, "a", x}, lone{-1, "b", ix}, lone{1, "", x})
	y.Free(1)
	wantYes(t, y, 2, "", is)
	wantAll(t, y, lone{-1, "a", x}, lone{-1, "b", ix}, lone{2, "", is})
	y.Free(-1)
	wantAll(t, y, lone{2, "", is})
}

func TestAskingOfWhatIsHeldChangesNothing(t *testing.T) {
	y := given(t, lone{1, "a", ix}, lone{2, "a", is})
	for _, p := range people {
		y.Held(p, "b")
		y.Locks(p)
		for _, n := range names {
			y.Held(p, n)
			y.Holders(n)
		}
	}
	wantAll(t, y, lone{1, "a", ix}, lone{2, "a", is})
}

// A nil table, and others

func wantEmpty(t *testing.T, y *lock.Table) {
	t.Helper()
	for _, p := range people {
		y.Free(p)
	}
	for _, m := range noModes() {
		wantNo(t, y, 1, "a", m)
	}
	wantAll(t, y)
}

func TestNilTable(t *testing.T) {
	var y *lock.Table
	wantEmpty(t, y)
	for _, p := range people {
		for _, n := range names {
			for _, m := range modes {
				wantNo(t, y, p, n, m)
			}
		}
	}
	wantEmpty(t, y)
}

func TestTablesThatNewDidNotMake(t *testing.T) {
	var y lock.Table
	wantEmpty(t, &y)
	wantYes(t, &y, 1, "a", s)
	wantYes(t, &y, 2, "a", s)
	wantNo(t, &y, 3, "a", x, 1, 2)
	wantAll(t, &y, lone{1, "a", s}, lone{2, "a", s})
}

func TestCopyOfATableIsTheSameTable(t *testing.T) {
	y := lock.New()
	z := *y
	wantYes(t, y, 1, "a", ix)
	wantYes(t, &z, 2, "a", ix)
	wantNo(t, y, 1, "a", s, 2)
	wantNo(t, &z, 2, "a", s, 1)
	y.Free(2)
	wantAll(t, y, lone{1, "a", ix})
	wantAll(t, &z, lone{1, "a", ix})
}

func TestTablesAreApart(t *testing.T) {
	y, z := lock.New(), lock.New()
	wantYes(t, y, 1, "a", x)
	wantAll(t, z)
	wantYes(t, z, 2, "a", x)
	wantAll(t, y, lone{1, "a", x})
	y.Free(2)
	z.Free(1)
	wantAll(t, y, lone{1, "a", x})
	wantAll(t, z, lone{2, "a", x})
}

// R3

// spoil changes all of a list, and what is behind its end.
func spoil[T any](l []T, by T) {
	l = l[:cap(l)]
	for i := range l {
		l[i] = by
	}
}

func TestListsAreTheCallersOwn(t *testing.T) {
	all := []lone{{1, "a", ix}, {2, "a", ix}, {3, "a", is}, {1, "b", s}, {1, "", is}}
	y := given(t, all...)
	others, _ := y.Ask(0, "a", x)
	more, _ := y.Ask(0, "a", x)
	holders, again := y.Holders("a"), y.Holders("a")
	locks, twice := y.Locks(1), y.Locks(1)
	spoil(others, 7)
	spoil(holders, 8)
	spoil(locks, "c")
	if !slices.Equal(more, []int{1, 2, 3}) || !slices.Equal(again, []int{1, 2, 3}) || !slices.Equal(twice, []string{"", "a", "b"}) {
		t.Errorf("lists changed with others: %d, %d, %q", more, again, twice)
	}
	wantAll(t, y, all...)
	wantNo(t, y, 0, "a", x, 1, 2, 3)
	// What was handed out does not follow the table.
	y.Free(1)
	wantYes(t, y, 5, "a", ix)
	if !slices.Equal(more, []int{1, 2, 3}) || !slices.Equal(again, []int{1, 2, 3}) || !slices.Equal(twice, []string{"", "a", "b"}) {
		t.Errorf("lists changed with the table: %d, %d, %q", more, again, twice)
	}
}

// Bytes that are used again for something else, under a string that was handed in, show whether it is kept.
func TestNamesAreNotKept(t *testing.T) {
	b := []byte("ab")
	what := unsafe.String(&b[0], len(b))
	y := lock.New()
	for _, m := range []int{is, ix} {
		copy(b, "ab")
		wantYes(t, y, 1, what, m)
		y.Held(1, what)
		y.Holders(what)
		copy(b, "zz")
		wantHeld(t, y, 1, "ab", m)
		wantHolders(t, y, "ab", 1)
		wantLocks(t, y, 1, "ab")
		wantHolders(t, y, "zz")
	}
	wantYes(t, y, 2, "ab", is)
	y.Free(1)
	wantHolders(t, y, "ab", 2)
}

func TestNamesThatAreHandedOutAreNewMemory(t *testing.T) {
	what := strings.Clone("a name")
	y := given(t, lone{1, what, ix}, lone{2, what, is}, lone{1, what, is})
	at := func(s string) *byte { return unsafe.StringData(s) }
	one, two, other := y.Locks(1)[0], y.Locks(1)[0], y.Locks(2)[0]
	if at(one) == at(what) || at(other) == at(what) || at(one) == at(two) || at(one) == at(other) {
		t.Errorf("names share memory")
	}
}
