package look_test

import (
	"bytes"
	"math"
	"reflect"
	"slices"
	"testing"

	"whim/api"
	"whim/look"
)

// The face, as the chapter lists it.
var (
	_ func(l []api.Entry) api.Seen                          = look.All
	_ func(l []api.Entry) (s api.Seen, from int)            = look.Late
	_ func(s api.Seen, e api.Entry, lsn int) (now api.Seen) = look.On
)

var (
	// unknown are kinds that no entry has.
	unknown = []int{
		0, 11, 12, 15, 16, 17, 24, 25, 26, 64, 127, 128, 129, 136, 137, 255, 256, 257, 258, 259, 260, 261, 262, 263, 264, 265, 266, 1<<16 + 1, 1<<16 + 9, 1<<31 + 1,
		1<<32 + 1, 1<<32 + 2, 1<<32 + 3, 1<<32 + 4, 1<<32 + 5, 1<<32 + 6, 1<<32 + 7, 1<<32 + 8, 1<<32 + 9, 1<<32 + 10, math.MaxInt - 1, math.MaxInt,
		-1, -2, -3, -4, -5, -6, -7, -8, -9, -10, -247, -255, -256, -1 << 32, 9 - 1<<32, math.MinInt, math.MinInt + 1, math.MinInt + 5, math.MinInt + 9,
	}

	// lively are the kinds behind which a transaction lives.
	lively = []int{api.EntSet, api.EntBack, api.EntCommit, api.EntAbort}

	// numbers are some of every size, and those at the ends.
	numbers = []int{math.MinInt, math.MinInt + 1, -1 << 32, -1 << 31, -256, -2, -1, 0, 1, 2, 7, 8, 255, 256, 1<<24 - 1, 1 << 24, 1<<31 - 1, 1 << 31, 1 << 32, 1<<32 + 1, math.MaxInt - 1, math.MaxInt}

	// noPages are numbers of pages that there are not.
	noPages = []int{math.MinInt, math.MinInt + 1, -1 << 32, -256, -32, -2, -1, 32, 33, 34, 63, 64, 65, 255, 256, 257, 1 << 31, 1 << 32, 1<<32 + 1, math.MaxInt - 1, math.MaxInt}
)

// rid is a cell of a page.
func rid(page, at int) api.RID { return api.RID{Page: page, Cell: at} }

// moves are some from these pages, to others that are none of them.
func moves(from ...int) []api.Move {
	var l []api.Move
	for i, n := range from {
		l = append(l, api.Move{From: rid(n, i), To: rid(25, i)})
	}
	return l
}

// much is what is known behind a long log; each call returns lists of its own.
func much() api.Seen {
	return api.Seen{
		Lives: []api.Live{{Txn: -5, Last: 60, Next: 30}, {Txn: 10, Last: 61, Next: 31, Commit: true}, {Txn: 20, Last: 62}, {Txn: 300, Last: 63, Next: 33}},
		Dirty: []api.Dirty{{Page: -7, Rec: 50}, {Page: 5, Rec: 51}, {Page: 12, Rec: 40}, {Page: 31, Rec: 52}, {Page: 40, Rec: 53}},
		Open:  []api.Open{{Unit: 8, Moves: moves(1, 2), Done: 1}, {Unit: 6, Done: 3}, {Unit: 9, Moves: moves(4)}, {Unit: 6, Moves: moves(3, 3, 3), Done: 2}},
		Units: 17,
		Half:  1,
	}
}

// knowns are what may be known: nothing, little, much, and numbers at their ends.
func knowns() []api.Seen {
	least, most := math.MinInt, math.MaxInt
	return []api.Seen{
		{},
		{Lives: []api.Live{{Txn: 21, Last: 3, Next: 2}}},
		{Dirty: []api.Dirty{{Page: 26, Rec: 2}}, Half: 5},
		{Open: []api.Open{{Unit: 22, Moves: moves(6, 7), Done: 1}}, Units: 22},
		much(),
		{
			Lives: []api.Live{{Txn: least, Last: most, Next: least}, {Txn: most, Last: least, Next: most, Commit: true}},
			Dirty: []api.Dirty{{Page: least, Rec: most}, {Page: most, Rec: least}},
			Open:  []api.Open{{Unit: most, Moves: []api.Move{{From: rid(least, most), To: rid(most, least)}}, Done: least}, {Unit: least}},
			Units: least,
			Half:  most,
		},
	}
}

// crowded is an entry of this kind with another number in each of its fields, and something in each of its lists.
func crowded(kind int) api.Entry {
	return api.Entry{
		Kind: kind, Txn: 21, Unit: 22, Half: 23, Prev: 24, Next: 25,
		At: rid(26, 27), To: rid(28, 29), Old: []byte("old"), New: []byte("newer"),
		Moves: []api.Move{{From: rid(30, 32), To: rid(29, 34)}, {From: rid(3, 0)}},
		Lives: []api.Live{{Txn: 36, Last: 37, Next: 38, Commit: true}},
		Dirty: []api.Dirty{{Page: 39, Rec: 40}},
		Open:  []api.Open{{Unit: 41, Moves: []api.Move{{From: rid(42, 43), To: rid(44, 45)}}, Done: 46}},
	}
}

// markOf is an EntMark that says that s is known.
func markOf(s api.Seen) api.Entry {
	return api.Entry{Kind: api.EntMark, Lives: s.Lives, Dirty: s.Dirty, Open: s.Open, Unit: s.Units, Half: s.Half}
}

// room makes a list with something behind it, which nobody may touch.
func room[T any](l []T, behind T) []T {
	return append(slices.Clone(l), behind)[:len(l)]
}

// roomySeen is s again: it shares nothing with it, and has something behind each of its lists.
func roomySeen(s api.Seen) api.Seen {
	s.Lives = room(s.Lives, api.Live{Txn: 77, Last: 78})
	s.Dirty = room(s.Dirty, api.Dirty{Page: 77, Rec: 78})
	s.Open = room(s.Open, api.Open{Unit: 77, Done: 78})
	for i, o := range s.Open {
		s.Open[i].Moves = room(o.Moves, api.Move{From: rid(77, 78)})
	}
	return s
}

// roomyEntry is e again: it shares nothing with it, and has something behind each of its lists.
func roomyEntry(e api.Entry) api.Entry {
	lists := roomySeen(api.Seen{Lives: e.Lives, Dirty: e.Dirty, Open: e.Open})
	e.Lives, e.Dirty, e.Open = lists.Lives, lists.Dirty, lists.Open
	e.Moves = room(e.Moves, api.Move{From: rid(77, 78)})
	e.Old, e.New = room(e.Old, 77), room(e.New, 77)
	return e
}

func roomyLog(l []api.Entry) []api.Entry {
	l = room(l, api.Entry{Kind: api.EntMark, Half: 77})
	for i, e := range l {
		l[i] = roomyEntry(e)
	}
	return l
}

// whole is a copy of a list with what is behind it, too.
func whole[T any](l []T) []T {
	return append([]T{}, l[:cap(l)]...)
}

func wholeSeen(s api.Seen) api.Seen {
	s.Lives, s.Dirty, s.Open = whole(s.Lives), whole(s.Dirty), whole(s.Open)
	for i, o := range s.Open {
		s.Open[i].Moves = whole(o.Moves)
	}
	return s
}

func wholeEntry(e api.Entry) api.Entry {
	lists := wholeSeen(api.Seen{Lives: e.Lives, Dirty: e.Dirty, Open: e.Open})
	e.Lives, e.Dirty, e.Open = lists.Lives, lists.Dirty, lists.Open
	e.Moves, e.Old, e.New = whole(e.Moves), whole(e.Old), whole(e.New)
	return e
}

func wholeLog(l []api.Entry) []api.Entry {
	l = whole(l)
	for i, e := range l {
		l[i] = wholeEntry(e)
	}
	return l
}

// spoilList fills a list with x, and what is behind it.
func spoilList[T any](l []T, x T) {
	l = l[:cap(l)]
	for i := range l {
		l[i] = x
	}
}

// spoil turns all that the lists of s have, and what is behind them.
func spoil(s api.Seen) {
	for _, o := range s.Open[:cap(s.Open)] {
		spoilList(o.Moves, api.Move{To: rid(99, 98)})
	}
	spoilList(s.Lives, api.Live{Txn: 99, Last: 98, Next: 97, Commit: true})
	spoilList(s.Dirty, api.Dirty{Page: 99, Rec: 98})
	spoilList(s.Open, api.Open{Unit: 99, Done: 98})
}

func spoilEntry(e api.Entry) {
	spoil(api.Seen{Lives: e.Lives, Dirty: e.Dirty, Open: e.Open})
	spoilList(e.Moves, api.Move{To: rid(99, 98)})
	spoilList(e.Old, 99)
	spoilList(e.New, 99)
}

// equal tells whether the same is known; a list of no length and nil are the same.
func equal(a, b api.Seen) bool {
	return samePlaces(a, b) && slices.Equal(a.Dirty, b.Dirty)
}

// samePlaces tells whether the same is known, but for the pages that are dirty.
func samePlaces(a, b api.Seen) bool {
	return slices.Equal(a.Lives, b.Lives) && slices.EqualFunc(a.Open, b.Open, func(x, y api.Open) bool {
		return x.Unit == y.Unit && x.Done == y.Done && slices.Equal(x.Moves, y.Moves)
	}) && a.Units == b.Units && a.Half == b.Half
}

// wantOn holds that this is known behind one more entry, that nothing of what is handed in has turned, and that the answer shares nothing with it and with the next answer.
func wantOn(t *testing.T, s api.Seen, e api.Entry, lsn int, asked api.Seen) {
	t.Helper()
	asked = roomySeen(asked) // s and asked may share their lists.
	s, e = roomySeen(s), roomyEntry(e)
	s0, e0 := wholeSeen(s), wholeEntry(e)
	check := func(when string, now api.Seen) {
		t.Helper()
		if !equal(now, asked) {
			t.Errorf("On(%v, %v, %d)%s: %v; asked for: %v", s0, e0, lsn, when, now, asked)
		}
	}
	stays := func(when string) {
		t.Helper()
		if !reflect.DeepEqual(wholeSeen(s), s0) || !reflect.DeepEqual(wholeEntry(e), e0) {
			t.Errorf("On(%v, %v, %d)%s: handed in are %v and %v now", s0, e0, lsn, when, wholeSeen(s), wholeEntry(e))
		}
	}
	first := look.On(s, e, lsn)
	check("", first)
	stays("")
	second := look.On(s, e, lsn)
	spoil(first)
	stays(", behind changes of the answer")
	check(", behind changes of another answer", second)
	spoil(s)
	spoilEntry(e)
	check(", behind changes of what was handed in", second)
}

// The example of the chapter.

func TestExample(t *testing.T) {
	e := api.Entry{Kind: api.EntSet, Txn: 4, At: rid(3, 0)}
	asked := api.Seen{Lives: []api.Live{{Txn: 4, Last: 1, Next: 1}}, Dirty: []api.Dirty{{Page: 3, Rec: 1}}}
	wantAll(t, []api.Entry{e}, asked)
	wantLate(t, []api.Entry{e}, asked, 0)
	wantOn(t, api.Seen{}, e, 1, asked)
}

// P18.1: EntSet, EntBack, EntCommit and EntAbort.

// at is on no page that there is: nothing is dirty behind an entry there.
var at = rid(-1, 0)

func TestOnOfATransactionThatIsThere(t *testing.T) {
	for i := range 4 {
		for _, had := range []api.Live{{Last: 70, Next: 35}, {Last: 71, Next: 0, Commit: true}, {Last: math.MaxInt, Next: math.MinInt}} {
			s := much()
			had.Txn = s.Lives[i].Txn
			s.Lives[i] = had
			for kind, asked := range map[int]api.Live{
				api.EntSet:    {Txn: had.Txn, Last: 80, Next: 80, Commit: had.Commit},
				api.EntBack:   {Txn: had.Txn, Last: 80, Next: 44, Commit: had.Commit},
				api.EntCommit: {Txn: had.Txn, Last: 80, Next: had.Next, Commit: true},
				api.EntAbort:  {Txn: had.Txn, Last: 80, Next: had.Next, Commit: had.Commit},
			} {
				now := roomySeen(s)
				now.Lives[i] = asked
				wantOn(t, s, api.Entry{Kind: kind, Txn: had.Txn, Prev: 43, Next: 44, At: at}, 80, now)
			}
		}
	}
}

func TestOnOfATransactionThatIsNotThere(t *testing.T) {
	for _, where := range []struct{ txn, at int }{{math.MinInt, 0}, {-6, 0}, {-4, 1}, {0, 1}, {9, 1}, {11, 2}, {15, 2}, {19, 2}, {21, 3}, {256 + 10, 3}, {299, 3}, {301, 4}, {1 << 32, 4}, {math.MaxInt, 4}} {
		for kind, asked := range map[int]api.Live{
			api.EntSet:    {Txn: where.txn, Last: 80, Next: 80},
			api.EntBack:   {Txn: where.txn, Last: 80, Next: 44},
			api.EntCommit: {Txn: where.txn, Last: 80, Commit: true},
			api.EntAbort:  {Txn: where.txn, Last: 80},
		} {
			e := api.Entry{Kind: kind, Txn: where.txn, Prev: 43, Next: 44, At: at}
			now := much()
			now.Lives = slices.Insert(now.Lives, where.at, asked)
			wantOn(t, much(), e, 80, now)
			wantOn(t, api.Seen{}, e, 80, api.Seen{Lives: []api.Live{asked}})
		}
	}
}

func TestLivesAreAscending(t *testing.T) {
	txns := []int{7, 0, 300, -2, 8, 44, math.MaxInt, 1, 6, math.MinInt, 2, -1}
	for _, kind := range lively {
		var s api.Seen
		for i, txn := range txns {
			s = look.On(s, api.Entry{Kind: kind, Txn: txn, Next: 9, At: at}, i+1)
			up := slices.Sorted(slices.Values(txns[:i+1]))
			for k, l := range s.Lives {
				if len(s.Lives) != i+1 || l.Txn != up[k] || l.Last != slices.Index(txns, l.Txn)+1 {
					t.Fatalf("kind %d, behind %v: %v", kind, txns[:i+1], s.Lives)
				}
			}
		}
	}
}

func TestCommitStaysSet(t *testing.T) {
	for _, kind := range lively {
		s := look.On(api.Seen{}, api.Entry{Kind: api.EntCommit, Txn: 3, At: at}, 1)
		for lsn := 2; lsn < 5; lsn++ {
			s = look.On(s, api.Entry{Kind: kind, Txn: 3, At: at}, lsn)
			if len(s.Lives) != 1 || !s.Lives[0].Commit || s.Lives[0].Last != lsn {
				t.Errorf("kind %d: %v", kind, s.Lives)
			}
		}
		s = look.On(s, api.Entry{Kind: kind, Txn: 4, At: at}, 6)
		if len(s.Lives) != 2 || !s.Lives[0].Commit || s.Lives[1].Commit != (kind == api.EntCommit) {
			t.Errorf("kind %d: %v", kind, s.Lives)
		}
	}
}

func TestLiveNumbersAtTheirEnds(t *testing.T) {
	for _, a := range numbers {
		for _, b := range numbers {
			for _, had := range []api.Seen{{}, {Lives: []api.Live{{Txn: 5, Last: b, Next: a}}}} {
				next := 0
				if len(had.Lives) > 0 {
					next = a
				}
				for kind, asked := range map[int]api.Live{
					api.EntSet:    {Txn: 5, Last: a, Next: a},
					api.EntBack:   {Txn: 5, Last: a, Next: b},
					api.EntCommit: {Txn: 5, Last: a, Next: next, Commit: true},
					api.EntAbort:  {Txn: 5, Last: a, Next: next},
				} {
					wantOn(t, had, api.Entry{Kind: kind, Txn: 5, Prev: 1, Next: b, At: at}, a, api.Seen{Lives: []api.Live{asked}})
				}
			}
		}
	}
}

// P18.1: EntEnd.

func TestOnOfAnEnd(t *testing.T) {
	for i := range 4 {
		s := much()
		e := api.Entry{Kind: api.EntEnd, Txn: s.Lives[i].Txn, At: rid(3, 0)}
		s.Lives = slices.Delete(s.Lives, i, i+1)
		wantOn(t, much(), e, 80, s)
		wantOn(t, s, e, 81, s)
	}
	for _, txn := range []int{math.MinInt, -6, -4, 0, 9, 11, 19, 21, 266, 299, 301, math.MaxInt} {
		wantOn(t, much(), api.Entry{Kind: api.EntEnd, Txn: txn}, 80, much())
		wantOn(t, api.Seen{}, api.Entry{Kind: api.EntEnd, Txn: txn}, 80, api.Seen{})
		s := api.Seen{Lives: []api.Live{{Txn: txn, Last: 1, Commit: true}}}
		wantOn(t, s, api.Entry{Kind: api.EntEnd, Txn: txn}, 80, api.Seen{})
	}
}

// Nothing is left of a transaction that has ended: one of its number begins anew.
func TestOnBehindAnEnd(t *testing.T) {
	for _, kind := range lively {
		l := []api.Entry{{Kind: api.EntSet, Txn: 3, At: at}, {Kind: api.EntCommit, Txn: 3}, {Kind: api.EntEnd, Txn: 3}, {Kind: kind, Txn: 3, At: at}}
		live := api.Live{Txn: 3, Last: 4, Commit: kind == api.EntCommit}
		if kind == api.EntSet {
			live.Next = 4
		}
		wantAll(t, l, api.Seen{Lives: []api.Live{live}})
	}
}

// P18.1: EntUnit.

func TestOnOfAUnit(t *testing.T) {
	for _, m := range [][]api.Move{nil, {}, moves(1), moves(1, 2), make([]api.Move, 1000), moves(noPages...)} {
		for _, unit := range []int{math.MinInt, -1, 0, 1, 6, 8, 16, 17, 18, 1 << 32, math.MaxInt} {
			e := api.Entry{Kind: api.EntUnit, Unit: unit, Moves: m}
			now := much()
			now.Open = append(now.Open, api.Open{Unit: unit, Moves: m})
			if unit > 17 {
				now.Units = unit
			}
			wantOn(t, much(), e, 80, now)
			wantOn(t, api.Seen{}, e, 80, api.Seen{Open: []api.Open{{Unit: unit, Moves: m}}, Units: max(0, unit)})
		}
	}
}

func TestUnitsBecomesTheGreater(t *testing.T) {
	for _, a := range numbers {
		for _, b := range numbers {
			units := a
			if b > a {
				units = b
			}
			wantOn(t, api.Seen{Units: a}, api.Entry{Kind: api.EntUnit, Unit: b}, 5, api.Seen{Open: []api.Open{{Unit: b}}, Units: units})
		}
	}
}

func TestTheSameUnitTwice(t *testing.T) {
	l := []api.Entry{{Kind: api.EntUnit, Unit: 4, Moves: moves(1)}, {Kind: api.EntMove, Unit: 4, At: at, To: at}, {Kind: api.EntUnit, Unit: 4, Moves: moves(2, 3)}, {Kind: api.EntUnit, Unit: 4, Moves: moves(1)}}
	wantAll(t, l, api.Seen{Open: []api.Open{{Unit: 4, Moves: moves(1), Done: 1}, {Unit: 4, Moves: moves(2, 3)}, {Unit: 4, Moves: moves(1)}}, Units: 4})
}

// P18.1: EntMove and EntDone.

func TestOnOfAMove(t *testing.T) {
	for unit, i := range map[int]int{8: 0, 6: 1, 9: 2} {
		for _, done := range []int{math.MinInt, -2, -1, 0, 1, 2, 255, 1 << 32, math.MaxInt - 1} {
			s, now := much(), much()
			s.Open[i].Done, now.Open[i].Done = done, done+1
			wantOn(t, s, api.Entry{Kind: api.EntMove, Unit: unit, At: at, To: at, Moves: moves(9)}, 80, now)
		}
	}
	for _, unit := range []int{math.MinInt, -6, -1, 0, 1, 5, 7, 10, 17, 256 + 6, 1<<32 + 8, math.MaxInt} {
		wantOn(t, much(), api.Entry{Kind: api.EntMove, Unit: unit, At: at, To: at}, 80, much())
		wantOn(t, api.Seen{}, api.Entry{Kind: api.EntMove, Unit: unit, At: at, To: at}, 80, api.Seen{})
	}
}

func TestOnOfADone(t *testing.T) {
	for unit, i := range map[int]int{8: 0, 6: 1, 9: 2} {
		now := much()
		now.Open = slices.Delete(now.Open, i, i+1)
		wantOn(t, much(), api.Entry{Kind: api.EntDone, Unit: unit, Moves: moves(-1)}, 80, now)
		wantOn(t, much(), api.Entry{Kind: api.EntDone, Unit: unit}, 80, now)
	}
	for _, unit := range []int{math.MinInt, -6, -1, 0, 1, 5, 7, 10, 17, 256 + 6, 1<<32 + 8, math.MaxInt} {
		e := api.Entry{Kind: api.EntDone, Unit: unit}
		wantOn(t, much(), e, 80, much())
		wantOn(t, api.Seen{}, e, 80, api.Seen{})
		wantOn(t, api.Seen{Open: []api.Open{{Unit: unit, Moves: moves(1), Done: 5}}}, e, 80, api.Seen{})
	}
}

// Of a unit that is open twice, the second one counts when the first one is done.
func TestTheFirstOfAUnitCounts(t *testing.T) {
	s, now := much(), much()
	for range 3 {
		now.Open[1].Done++
		wantOn(t, s, api.Entry{Kind: api.EntMove, Unit: 6, At: at, To: at}, 80, now)
		s = roomySeen(now)
	}
	now.Open = slices.Delete(now.Open, 1, 2)
	wantOn(t, s, api.Entry{Kind: api.EntDone, Unit: 6}, 81, now)
	s = roomySeen(now)
	now.Open[2].Done++
	wantOn(t, s, api.Entry{Kind: api.EntMove, Unit: 6, At: at, To: at}, 82, now)
	s = roomySeen(now)
	now.Open = now.Open[:2]
	wantOn(t, s, api.Entry{Kind: api.EntDone, Unit: 6}, 83, now)
	wantOn(t, now, api.Entry{Kind: api.EntDone, Unit: 6}, 84, now)
	wantOn(t, now, api.Entry{Kind: api.EntMove, Unit: 6, At: at, To: at}, 85, now)
}

// P18.1: EntTurn.

func TestOnOfATurn(t *testing.T) {
	for _, half := range numbers {
		for _, s := range knowns() {
			now := roomySeen(s)
			now.Half = half
			wantOn(t, s, api.Entry{Kind: api.EntTurn, Half: half, At: rid(3, 0), To: rid(4, 0), Unit: 999, Txn: 10}, 80, now)
		}
	}
}

// P18.1: EntMark.

func TestOnOfAMark(t *testing.T) {
	for _, s := range knowns() {
		for _, now := range knowns() {
			e := markOf(now)
			wantOn(t, s, e, 80, now)
			e.Txn, e.Prev, e.Next, e.Moves = 10, 1, 2, moves(1, 2)
			e.At, e.To, e.Old, e.New = rid(3, 0), rid(4, 0), []byte("old"), []byte("new")
			wantOn(t, s, e, 80, now)
		}
	}
}

func TestOnOfAMarkWithLongLists(t *testing.T) {
	var now api.Seen
	for i := range 1000 {
		now.Lives = append(now.Lives, api.Live{Txn: i * 3, Last: i, Next: -i, Commit: i%2 == 0})
		now.Dirty = append(now.Dirty, api.Dirty{Page: i - 500, Rec: i * i})
		now.Open = append(now.Open, api.Open{Unit: i % 7, Moves: moves(i, i+1), Done: i % 3})
	}
	wantOn(t, much(), markOf(now), 80, now)
	wantOn(t, now, markOf(api.Seen{}), 80, api.Seen{})
	s := roomySeen(now)
	s.Lives[501] = api.Live{Txn: 1503, Last: 80, Next: 80, Commit: s.Lives[501].Commit}
	wantOn(t, now, api.Entry{Kind: api.EntSet, Txn: 1503, At: rid(7, 0)}, 80, s)
	s.Lives[501] = now.Lives[501]
	s.Lives = slices.Insert(s.Lives, 502, api.Live{Txn: 1504, Last: 80, Next: 80})
	wantOn(t, now, api.Entry{Kind: api.EntSet, Txn: 1504, At: rid(7, 0)}, 80, s)
}

// A Units and a Half that are smaller than what was known count, too.
func TestOnOfAMarkTakesItsNumbers(t *testing.T) {
	for _, a := range numbers {
		for _, b := range numbers {
			wantOn(t, api.Seen{Units: a, Half: b}, api.Entry{Kind: api.EntMark, Unit: b, Half: a}, 3, api.Seen{Units: b, Half: a})
		}
	}
}

// P18.1: Dirty.

// dirtying are entries of each kind that turns pages dirty, which touch these pages.
func dirtying(a, b int) []api.Entry {
	return []api.Entry{
		{Kind: api.EntSet, At: rid(a, 0), To: rid(b, 0), Moves: moves(b)},
		{Kind: api.EntBack, At: rid(a, 9), To: rid(b, 0), Moves: moves(b)},
		{Kind: api.EntMove, Unit: -9, At: rid(a, 0), To: rid(b, 1), Moves: moves(18)},
		{Kind: api.EntMove, Unit: -9, At: rid(b, 0), To: rid(a, -1), Moves: moves(18)},
		{Kind: api.EntDone, Unit: -9, Moves: moves(a, b, a), At: rid(18, 0), To: rid(18, 0)},
		{Kind: api.EntDone, Unit: -9, Moves: moves(b, b, a), At: rid(18, 0), To: rid(18, 0)},
	}
}

// touched are the pages that an entry of dirtying(a, b) touches.
func touched(e api.Entry, a, b int) []int {
	if e.Kind == api.EntSet || e.Kind == api.EntBack {
		return []int{a}
	}
	return []int{a, b}
}

// withPages is a list with these pages in it.
func withPages(l []api.Dirty, pages []int, lsn int) []api.Dirty {
	l = slices.Clone(l)
	for _, n := range pages {
		there := slices.ContainsFunc(l, func(d api.Dirty) bool { return d.Page == n })
		if n >= 0 && n < 32 && !there {
			l = append(l, api.Dirty{Page: n, Rec: lsn})
		}
	}
	slices.SortFunc(l, func(a, b api.Dirty) int { return a.Page - b.Page })
	return l
}

func wantDirty(t *testing.T, s api.Seen, e api.Entry, lsn int, asked []api.Dirty) {
	t.Helper()
	if now := look.On(s, e, lsn); !slices.Equal(now.Dirty, asked) {
		t.Errorf("On(%v, %v, %d): %v is dirty; asked for: %v", s, e, lsn, now.Dirty, asked)
	}
}

func TestDirtyPages(t *testing.T) {
	for _, had := range [][]api.Dirty{nil, {{Page: 0, Rec: 90}}, {{Page: 31, Rec: -3}}, much().Dirty, {{Page: -1, Rec: 1}, {Page: 32, Rec: 2}}} {
		for a := range 32 {
			for b := range 32 {
				for _, e := range dirtying(a, b) {
					wantDirty(t, api.Seen{Dirty: had}, e, 80, withPages(had, touched(e, a, b), 80))
				}
			}
		}
	}
}

func TestDirtyWhenAllPagesAreThere(t *testing.T) {
	var s api.Seen
	for n := range 32 {
		s.Dirty = append(s.Dirty, api.Dirty{Page: n, Rec: 100 - n})
	}
	for a := range 32 {
		for _, e := range dirtying(a, 31-a) {
			wantDirty(t, s, e, 80, s.Dirty)
		}
		without := slices.Concat(s.Dirty[:a], s.Dirty[a+1:])
		for _, e := range dirtying(a, 31-a) {
			asked := slices.Clone(s.Dirty)
			asked[a].Rec = 80
			wantDirty(t, api.Seen{Dirty: without}, e, 80, asked)
		}
	}
}

func TestPagesThatThereAreNotAreNotDirty(t *testing.T) {
	for _, had := range [][]api.Dirty{nil, much().Dirty} {
		for _, none := range noPages {
			for _, e := range slices.Concat(dirtying(none, none), dirtying(none, noPages[0])) {
				wantDirty(t, api.Seen{Dirty: had}, e, 80, had)
			}
			for _, a := range []int{0, 4, 5, 31} {
				for _, e := range slices.Concat(dirtying(none, a), dirtying(a, none)) {
					if e.Kind != api.EntSet && e.Kind != api.EntBack {
						wantDirty(t, api.Seen{Dirty: had}, e, 80, withPages(had, []int{a}, 80))
					}
				}
			}
		}
	}
}

func TestRecsAtTheirEnds(t *testing.T) {
	for _, lsn := range numbers {
		for _, rec := range numbers {
			had := []api.Dirty{{Page: 4, Rec: rec}}
			for _, e := range dirtying(4, 4) {
				wantDirty(t, api.Seen{Dirty: had}, e, lsn, had)
			}
			for _, e := range dirtying(3, 3) {
				wantDirty(t, api.Seen{Dirty: had}, e, lsn, []api.Dirty{{Page: 3, Rec: lsn}, {Page: 4, Rec: rec}})
			}
		}
	}
}

func TestDoneOfManyMoves(t *testing.T) {
	var pages []int
	for i := range 200 {
		pages = append(pages, i*37%101-20)
	}
	wantDirty(t, much(), api.Entry{Kind: api.EntDone, Moves: moves(pages...)}, 80, withPages(much().Dirty, pages, 80))
	wantDirty(t, api.Seen{}, api.Entry{Kind: api.EntDone, Moves: moves(30, 2, 17, 0, 31, 2)}, 80, []api.Dirty{{Page: 0, Rec: 80}, {Page: 2, Rec: 80}, {Page: 17, Rec: 80}, {Page: 30, Rec: 80}, {Page: 31, Rec: 80}})
}

// No other entry turns a page dirty, whatever its fields are: but for an EntMark's Dirty.
func TestOtherKindsTurnNoPageDirty(t *testing.T) {
	for _, kind := range slices.Concat([]int{api.EntCommit, api.EntAbort, api.EntEnd, api.EntUnit, api.EntMark, api.EntTurn}, unknown) {
		for n := range 32 {
			e := api.Entry{Kind: kind, At: rid(n, 0), To: rid(n, 1), New: []byte("new"), Moves: moves(n), Open: []api.Open{{Moves: moves(n)}}}
			for _, had := range [][]api.Dirty{nil, much().Dirty} {
				if kind == api.EntMark {
					e.Dirty = had
				}
				wantDirty(t, api.Seen{Dirty: had}, e, 80, had)
			}
		}
	}
}

// P18.1: of all kinds.

func TestOnOfUnknownKinds(t *testing.T) {
	for kind := -300; kind < 600; kind++ {
		if kind >= api.EntSet && kind <= api.EntTurn {
			continue
		}
		e := crowded(kind)
		wantOn(t, much(), e, 80, much())
		e.Txn, e.Unit = 10, 6 // There are both.
		wantOn(t, much(), e, 80, much())
	}
	for _, kind := range unknown {
		for _, s := range knowns() {
			for _, lsn := range numbers {
				wantOn(t, s, crowded(kind), lsn, s)
				wantOn(t, s, api.Entry{Kind: kind}, lsn, s)
			}
		}
	}
}

// TestOnLooksAtNothingElse hands in entries that have something in every field, and looks at all that is known behind them.
func TestOnLooksAtNothingElse(t *testing.T) {
	nothing := map[int]api.Seen{
		1:  {Lives: []api.Live{{Txn: 21, Last: 80, Next: 80}}, Dirty: []api.Dirty{{Page: 26, Rec: 80}}},
		2:  {Lives: []api.Live{{Txn: 21, Last: 80, Next: 25}}, Dirty: []api.Dirty{{Page: 26, Rec: 80}}},
		3:  {Lives: []api.Live{{Txn: 21, Last: 80, Commit: true}}},
		4:  {Lives: []api.Live{{Txn: 21, Last: 80}}},
		5:  {},
		6:  {Open: []api.Open{{Unit: 22, Moves: crowded(6).Moves}}, Units: 22},
		7:  {Dirty: []api.Dirty{{Page: 26, Rec: 80}, {Page: 28, Rec: 80}}},
		8:  {Dirty: []api.Dirty{{Page: 3, Rec: 80}, {Page: 30, Rec: 80}}},
		9:  {Lives: crowded(9).Lives, Dirty: crowded(9).Dirty, Open: crowded(9).Open, Units: 22, Half: 23},
		10: {Half: 23},
	}
	for kind, asked := range nothing {
		wantOn(t, api.Seen{}, crowded(kind), 80, asked)
	}
	for kind := range 12 {
		for _, s := range knowns() {
			for _, lsn := range numbers {
				wantOn(t, s, crowded(kind), lsn, plainOn(s, crowded(kind), lsn))
			}
		}
	}
}

func TestOnWithNumbersAtTheirEnds(t *testing.T) {
	for kind := range 12 {
		for _, a := range numbers {
			for _, b := range numbers {
				e := api.Entry{Kind: kind, Txn: a, Unit: b, Half: a, Prev: a, Next: b, At: rid(a, b), To: rid(b, a), Moves: []api.Move{{From: rid(a, b), To: rid(b, a)}}, Lives: []api.Live{{Txn: a, Last: b, Next: a}}, Dirty: []api.Dirty{{Page: a, Rec: b}}, Open: []api.Open{{Unit: b, Done: a}}}
				for _, s := range knowns() {
					wantOn(t, s, e, b, plainOn(s, e, b))
				}
			}
		}
	}
}

// R1: lists that are in no order are beyond what is promised: but each call ends.
func TestListsInNoOrder(t *testing.T) {
	s := api.Seen{}
	for i := range 50 {
		s.Lives = append(s.Lives, api.Live{Txn: i * 29 % 13, Last: i})
		s.Dirty = append(s.Dirty, api.Dirty{Page: i*31%41 - 4, Rec: i})
		s.Open = append(s.Open, api.Open{Unit: i * 17 % 11, Moves: moves(i)})
	}
	for kind := range 12 {
		for n := -3; n < 40; n++ {
			e := api.Entry{Kind: kind, Txn: n, Unit: n, At: rid(n, 0), To: rid(n+1, 0), Moves: moves(n, n-1)}
			look.On(s, e, 80)
			look.All([]api.Entry{markOf(s), e, e})
			look.Late([]api.Entry{markOf(s), e, e})
		}
	}
}

// R3: what one answer has, it has once.

// wantOwn holds that no two lists of an answer share anything: each Moves is turned, and the others stay.
func wantOwn(t *testing.T, s api.Seen) {
	t.Helper()
	for i := range s.Open {
		others := wholeSeen(s).Open[:len(s.Open)]
		spoilList(s.Open[i].Moves, api.Move{To: rid(99, i)})
		_ = append(s.Open[i].Moves, api.Move{To: rid(98, i)})
		for k, o := range others {
			if k != i && !slices.Equal(whole(s.Open[k].Moves), o.Moves) {
				t.Errorf("behind changes of the Moves of element %d, those of %d are %v; they were %v", i, k, s.Open[k].Moves, o.Moves)
			}
		}
	}
}

func TestTheListsOfAnAnswerShareNothing(t *testing.T) {
	m := room(moves(1, 2, 3), api.Move{})
	s := api.Seen{Open: []api.Open{{Unit: 1, Moves: m}, {Unit: 2, Moves: m}, {Unit: 3, Moves: m[:2]}, {Unit: 4, Moves: m[1:]}}}
	unit := api.Entry{Kind: api.EntUnit, Unit: 5, Moves: m}
	for kind := range 12 {
		wantOwn(t, look.On(s, api.Entry{Kind: kind, Moves: m}, 80))
		wantOwn(t, look.On(s, api.Entry{Kind: kind, Unit: 2, Moves: m, Open: s.Open}, 80))
	}
	l := []api.Entry{unit, markOf(s), unit, unit}
	wantOwn(t, look.All([]api.Entry{unit, unit, unit}))
	wantOwn(t, look.All(l))
	late, _ := look.Late(l)
	wantOwn(t, late)
	if !slices.Equal(m, moves(1, 2, 3)) {
		t.Errorf("handed in is %v now", m)
	}
}

// What was known before stays what it was, also if On is asked for several entries behind it.
func TestOnFromOneSeenInTwoWays(t *testing.T) {
	var s api.Seen
	for i := range 5 {
		s = look.On(s, api.Entry{Kind: api.EntSet, Txn: i * 2, At: rid(i*2, 0)}, i+1)
		s = look.On(s, api.Entry{Kind: api.EntUnit, Unit: i, Moves: moves(i)}, i+1)
		before := wholeSeen(s)
		a := look.On(s, api.Entry{Kind: api.EntSet, Txn: 3, At: rid(3, 0)}, 70)
		a = look.On(a, api.Entry{Kind: api.EntUnit, Unit: 30, Moves: moves(3)}, 70)
		a0 := wholeSeen(a)
		b := look.On(s, api.Entry{Kind: api.EntSet, Txn: 1, At: rid(1, 0)}, 71)
		b = look.On(b, api.Entry{Kind: api.EntUnit, Unit: 31, Moves: moves(1)}, 71)
		spoil(b)
		if !reflect.DeepEqual(wholeSeen(a), a0) {
			t.Errorf("one way: %v; it was %v", a, a0)
		}
		if !reflect.DeepEqual(wholeSeen(s), before) {
			t.Errorf("both ways begin with %v; it was %v", s, before)
		}
	}
}

// No byte of an entry is looked at.
func TestOnOfAnyBytes(t *testing.T) {
	for kind := range 12 {
		asked := look.On(much(), crowded(kind), 80)
		for _, b := range [][]byte{nil, {}, {0}, make([]byte, api.CellSize), bytes.Repeat([]byte{9}, 1<<12)} {
			e := crowded(kind)
			e.Old, e.New = b, b
			wantOn(t, much(), e, 80, asked)
		}
	}
}
