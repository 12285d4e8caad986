package undo_test

import (
	"bytes"
	"math"
	"reflect"
	"slices"
	"testing"

	"whim/api"
	"whim/entry"
	"whim/undo"
)

// The face, as the chapter lists it.
var (
	_ func(e api.Entry, prev int) (b api.Entry, is bool) = undo.Back
	_ func(e api.Entry, lsn int) int                     = undo.Next
)

var (
	// unknown are kinds that no entry has.
	unknown = []int{
		0, 11, 12, 17, 18, 19, 20, 127, 128, 129, 255, 256, 257, 258, 259, 260, 1<<16 + 1, 1<<31 + 1, 1<<32 + 1, 1<<32 + 2, 1<<32 + 3, 1<<32 + 4, math.MaxInt - 1, math.MaxInt,
		-1, -2, -3, -4, -255, -254, -256, -1 << 32, 1 - 1<<32, math.MinInt, math.MinInt + 1, math.MinInt + 2, math.MinInt + 3, math.MinInt + 4,
	}

	// others are kinds, known and unknown, of which no entry is undone.
	others = append([]int{api.EntBack, api.EntCommit, api.EntAbort, api.EntEnd, api.EntUnit, api.EntMove, api.EntDone, api.EntMark, api.EntTurn}, unknown...)

	// still are kinds, known and unknown, behind which nothing is to be undone.
	still = append([]int{api.EntEnd, api.EntUnit, api.EntMove, api.EntDone, api.EntMark, api.EntTurn}, unknown...)

	// numbers are some of every size, and those at the ends.
	numbers = []int{math.MinInt, math.MinInt + 1, -1 << 32, -1 << 31, -256, -2, -1, 0, 1, 2, 7, 8, 255, 256, 1<<24 - 1, 1 << 24, 1<<31 - 1, 1 << 31, 1 << 32, 1<<32 + 1, math.MaxInt - 1, math.MaxInt}

	// olds are what a cell held: no bytes, a cell's, and others.
	olds = [][]byte{nil, {}, []byte("spare")[:0], {0}, {7}, make([]byte, api.CellSize), bytes.Repeat([]byte{9}, api.CellSize), bytes.Repeat([]byte{9}, api.CellSize-1), bytes.Repeat([]byte{9}, api.CellSize+1), bytes.Repeat([]byte{1, 2}, 1<<12)}
)

// crowded is an entry of this kind with another number in each of its fields, and something in each of its lists.
func crowded(kind int) api.Entry {
	moves := []api.Move{{From: api.RID{Page: 31, Cell: 32}, To: api.RID{Page: 33, Cell: 34}}, {From: api.RID{Page: 35}}}
	return api.Entry{
		Kind: kind, Txn: 21, Unit: 22, Half: 23, Prev: 24, Next: 25,
		At: api.RID{Page: 26, Cell: 27}, To: api.RID{Page: 28, Cell: 29},
		Old: []byte("old"), New: []byte("newer"),
		Moves: moves,
		Lives: []api.Live{{Txn: 36, Last: 37, Next: 38, Commit: true}},
		Dirty: []api.Dirty{{Page: 39, Rec: 40}},
		Open:  []api.Open{{Unit: 41, Moves: slices.Clone(moves), Done: 42}},
	}
}

// bare tells whether every field of an entry is zero, and each list of no length.
func bare(e api.Entry) bool {
	return entry.Same(e, api.Entry{})
}

// wantBack holds that an EntSet is undone by this entry, and by nothing more than it.
func wantBack(t *testing.T, e api.Entry, prev int, asked api.Entry) {
	t.Helper()
	if b, is := undo.Back(e, prev); !is || !entry.Same(b, asked) {
		t.Errorf("Back(%v, %d): %v, %t; asked for: %v, true", e, prev, b, is, asked)
	}
}

// wantNone holds that no entry undoes e.
func wantNone(t *testing.T, e api.Entry, prev int) {
	t.Helper()
	if b, is := undo.Back(e, prev); is || !bare(b) {
		t.Errorf("Back(%v, %d): %v, %t; asked for: no entry, false", e, prev, b, is)
	}
}

func wantNext(t *testing.T, e api.Entry, lsn, asked int) {
	t.Helper()
	if n := undo.Next(e, lsn); n != asked {
		t.Errorf("Next(%v, %d): %d; asked for: %d", e, lsn, n, asked)
	}
}

// P17.1: the example of the chapter.

func TestExample(t *testing.T) {
	wantNext(t, api.Entry{Kind: api.EntBack, Next: 8}, 11, 8)
	wantNext(t, api.Entry{Kind: api.EntBack, Txn: 3, Prev: 9, Next: 8}, 10, 8)
}

// P17.1: Back.

func TestBackOfASet(t *testing.T) {
	e := api.Entry{Kind: api.EntSet, Txn: 3, Prev: 7, At: api.RID{Page: 1, Cell: 2}, Old: []byte("old"), New: []byte("new")}
	wantBack(t, e, 20, api.Entry{Kind: api.EntBack, Txn: 3, Prev: 20, Next: 7, At: api.RID{Page: 1, Cell: 2}, New: []byte("old")})
	wantBack(t, api.Entry{Kind: api.EntSet}, 0, api.Entry{Kind: api.EntBack})
}

func TestBackLooksAtNothingElse(t *testing.T) {
	asked := api.Entry{Kind: 2, Txn: 21, Prev: 50, Next: 24, At: api.RID{Page: 26, Cell: 27}, New: []byte("old")}
	whole := crowded(api.EntSet)
	wantBack(t, whole, 50, asked)
	for _, turn := range []func(e *api.Entry){
		func(e *api.Entry) { e.Unit = math.MaxInt },
		func(e *api.Entry) { e.Half = -1 },
		func(e *api.Entry) { e.Next = 0 },
		func(e *api.Entry) { e.Next = 50 },
		func(e *api.Entry) { e.Next = math.MinInt },
		func(e *api.Entry) { e.To = e.At },
		func(e *api.Entry) { e.To = api.RID{} },
		func(e *api.Entry) { e.New = nil },
		func(e *api.Entry) { e.New = []byte("old") },
		func(e *api.Entry) { e.Moves = nil },
		func(e *api.Entry) { e.Lives = nil },
		func(e *api.Entry) { e.Lives[0].Txn = e.Txn },
		func(e *api.Entry) { e.Dirty = nil },
		func(e *api.Entry) { e.Open = nil },
	} {
		e := crowded(api.EntSet)
		turn(&e)
		wantBack(t, e, 50, asked)
	}
}

func TestBackTakesWhatItAsksFor(t *testing.T) {
	for _, a := range numbers {
		for _, b := range numbers {
			at := api.RID{Page: a, Cell: b}
			e := api.Entry{Kind: api.EntSet, Txn: a, Prev: b, At: at}
			wantBack(t, e, 5, api.Entry{Kind: api.EntBack, Txn: a, Prev: 5, Next: b, At: at})
			e = api.Entry{Kind: api.EntSet, Txn: 3, Prev: a, Next: b}
			wantBack(t, e, b, api.Entry{Kind: api.EntBack, Txn: 3, Prev: b, Next: a})
		}
	}
}

func TestBackOfAnyBytes(t *testing.T) {
	for _, old := range olds {
		for _, fresh := range olds {
			e := api.Entry{Kind: api.EntSet, Txn: 3, Prev: 7, Old: old, New: fresh}
			wantBack(t, e, 20, api.Entry{Kind: api.EntBack, Txn: 3, Prev: 20, Next: 7, New: old})
		}
	}
}

func TestBackOfOtherKinds(t *testing.T) {
	for _, kind := range others {
		for _, prev := range numbers {
			wantNone(t, crowded(kind), prev)
			wantNone(t, api.Entry{Kind: kind}, prev)
			wantNone(t, api.Entry{Kind: kind, Txn: prev, Prev: prev, Next: prev, Old: []byte{1}}, prev)
		}
	}
}

// An entry that undoes is not undone itself.
func TestBackOfBack(t *testing.T) {
	b, _ := undo.Back(crowded(api.EntSet), 50)
	wantNone(t, b, 51)
	wantNone(t, b, 50)
}

// P17.1: Next.

func TestNextOfEveryKind(t *testing.T) {
	asked := map[int]int{api.EntSet: 50, api.EntBack: 25, api.EntCommit: 24, api.EntAbort: 24}
	for kind, n := range asked {
		wantNext(t, crowded(kind), 50, n)
	}
	for _, kind := range still {
		wantNext(t, crowded(kind), 50, 0)
		wantNext(t, api.Entry{Kind: kind}, 50, 0)
	}
}

func TestNextTakesWhatItAsksFor(t *testing.T) {
	for _, a := range numbers {
		for _, b := range numbers {
			e := crowded(api.EntSet)
			e.Prev, e.Next = b, b
			wantNext(t, e, a, a)
			e = crowded(api.EntBack)
			e.Next, e.Prev = a, b
			wantNext(t, e, b, a)
			for _, kind := range []int{api.EntCommit, api.EntAbort} {
				e = crowded(kind)
				e.Prev, e.Next = a, b
				wantNext(t, e, b, a)
			}
			for _, kind := range still {
				e = crowded(kind)
				e.Prev, e.Next = a, b
				wantNext(t, e, a, 0)
			}
		}
	}
}

func TestNextLooksAtNothingElse(t *testing.T) {
	for _, kind := range []int{api.EntSet, api.EntBack, api.EntCommit, api.EntAbort} {
		asked := undo.Next(crowded(kind), 50)
		e := api.Entry{Kind: kind, Prev: 24, Next: 25}
		wantNext(t, e, 50, asked)
		e.Txn, e.Unit, e.Half = math.MinInt, math.MaxInt, -1
		e.At, e.To = api.RID{Page: math.MinInt, Cell: math.MaxInt}, api.RID{Page: -1, Cell: 4}
		e.Old, e.New = bytes.Repeat([]byte{1}, 1<<12), []byte{}
		e.Moves, e.Lives = make([]api.Move, 100), []api.Live{{Last: 9, Next: 8}}
		wantNext(t, e, 50, asked)
	}
}

// P17.1: both together: behind the entry that undoes a set, what stands ahead of that set is next, whatever its own number is.
func TestNextOfBackIsThePrevOfTheSet(t *testing.T) {
	for _, prev := range numbers {
		for _, lsn := range numbers {
			e := crowded(api.EntSet)
			e.Prev = prev
			b, _ := undo.Back(e, lsn)
			wantNext(t, b, lsn, prev)
		}
	}
}

// R3: what is handed in stays as it is, and what is handed back is the caller's own.

// room is behind each slice that is handed in: nobody may touch it.
const room = "behind it"

func roomy(b []byte) []byte {
	return append(bytes.Clone(b), room...)[:len(b)]
}

// roomyEntry is an entry of a kind that shares nothing with another one, with something behind each of its slices.
func roomyEntry(kind int, old []byte) api.Entry {
	e := crowded(kind)
	e.Old, e.New = roomy(old), roomy(e.New)
	e.Moves = append(e.Moves, api.Move{To: api.RID{Page: 77}})[:len(e.Moves)]
	e.Lives = append(e.Lives, api.Live{Txn: 77})[:len(e.Lives)]
	e.Dirty = append(e.Dirty, api.Dirty{Rec: 77})[:len(e.Dirty)]
	e.Open = append(e.Open, api.Open{Unit: 77})[:len(e.Open)]
	return e
}

// stretched is a copy of an entry with what is behind each of its slices, too.
func stretched(e api.Entry) api.Entry {
	e.Old, e.New = bytes.Clone(e.Old[:cap(e.Old)]), bytes.Clone(e.New[:cap(e.New)])
	e.Moves = slices.Clone(e.Moves[:cap(e.Moves)])
	e.Lives = slices.Clone(e.Lives[:cap(e.Lives)])
	e.Dirty = slices.Clone(e.Dirty[:cap(e.Dirty)])
	e.Open = slices.Clone(e.Open[:cap(e.Open)])
	for i := range e.Open {
		e.Open[i].Moves = slices.Clone(e.Open[i].Moves)
	}
	return e
}

// change turns every byte of b, and those behind it.
func change(b []byte) {
	b = b[:cap(b)]
	for i := range b {
		b[i] ^= 0xff
	}
}

func TestBackTurnsNothingAndSharesNothing(t *testing.T) {
	for kind := range 13 {
		for _, old := range olds {
			e := roomyEntry(kind, old)
			whole := stretched(e)
			same := func(when string) {
				t.Helper()
				if now := stretched(e); !reflect.DeepEqual(now, whole) {
					t.Errorf("%s, kind %d, old %v: %v was handed in; it was %v", when, kind, old, now, whole)
				}
			}
			b, is := undo.Back(e, 50)
			same("behind Back")
			change(b.New)
			same("behind changes of the answer")
			b, _ = undo.Back(e, 50)
			if is && !bytes.Equal(b.New, old) {
				t.Errorf("the second answer has %v; asked for: %v", b.New, old)
			}
			change(e.Old)
			change(e.New)
			if is && !bytes.Equal(b.New, old) {
				t.Errorf("behind changes of what was handed in: %v; asked for: %v", b.New, old)
			}
		}
	}
}

func TestTwoAnswersShareNothing(t *testing.T) {
	for _, old := range olds {
		e := roomyEntry(api.EntSet, old)
		a, _ := undo.Back(e, 50)
		b, _ := undo.Back(e, 50)
		change(a.New)
		_ = append(a.New, "more"...)
		if !bytes.Equal(b.New, old) {
			t.Errorf("behind changes of the first answer, the second one has %v; asked for: %v", b.New, old)
		}
	}
}

func TestNextTurnsNothing(t *testing.T) {
	for kind := range 13 {
		e := roomyEntry(kind, []byte("old"))
		whole := stretched(e)
		undo.Next(e, 50)
		if now := stretched(e); !reflect.DeepEqual(now, whole) {
			t.Errorf("kind %d: %v was handed in; it was %v", kind, now, whole)
		}
	}
}
