package entry_test

import (
	"bytes"
	"math"
	"reflect"
	"slices"
	"testing"

	"whim/api"
	"whim/entry"
)

// Where the parts of a full entry are in its encoding that are no numbers.
const (
	oldLenAt = 15
	oldAt    = 16
	newLenAt = 42
	newAt    = 43
	movesAt  = 69
	livesAt  = 78
	dirtyAt  = 95
	openAt   = 104
	fullLen  = 125
)

// The same of several: listsAt is of the lists in the order of lists(), and listsEnd where they end.
var (
	lensAt   = []int{oldLenAt, newLenAt}
	listsAt  = []int{movesAt, livesAt, dirtyAt, openAt, 108, 120}
	listsEnd = []int{livesAt, dirtyAt, openAt, fullLen, 117, fullLen}
	commitAt = []int{86, 94}
)

// field is a number of a full entry: where it is in the encoding, and in how many bytes.
type field struct {
	name   string
	at     int
	size   int
	number func(e *api.Entry) *int
}

func fields() []field {
	return []field{
		{"Txn", 1, 1, func(e *api.Entry) *int { return &e.Txn }},
		{"Unit", 2, 2, func(e *api.Entry) *int { return &e.Unit }},
		{"Half", 4, 1, func(e *api.Entry) *int { return &e.Half }},
		{"Prev", 5, 3, func(e *api.Entry) *int { return &e.Prev }},
		{"Next", 8, 3, func(e *api.Entry) *int { return &e.Next }},
		{"At.Page", 11, 1, func(e *api.Entry) *int { return &e.At.Page }},
		{"At.Cell", 12, 1, func(e *api.Entry) *int { return &e.At.Cell }},
		{"To.Page", 13, 1, func(e *api.Entry) *int { return &e.To.Page }},
		{"To.Cell", 14, 1, func(e *api.Entry) *int { return &e.To.Cell }},
		{"Moves[0].From.Page", 70, 1, func(e *api.Entry) *int { return &e.Moves[0].From.Page }},
		{"Moves[0].From.Cell", 71, 1, func(e *api.Entry) *int { return &e.Moves[0].From.Cell }},
		{"Moves[0].To.Page", 72, 1, func(e *api.Entry) *int { return &e.Moves[0].To.Page }},
		{"Moves[0].To.Cell", 73, 1, func(e *api.Entry) *int { return &e.Moves[0].To.Cell }},
		{"Moves[1].From.Page", 74, 1, func(e *api.Entry) *int { return &e.Moves[1].From.Page }},
		{"Moves[1].From.Cell", 75, 1, func(e *api.Entry) *int { return &e.Moves[1].From.Cell }},
		{"Moves[1].To.Page", 76, 1, func(e *api.Entry) *int { return &e.Moves[1].To.Page }},
		{"Moves[1].To.Cell", 77, 1, func(e *api.Entry) *int { return &e.Moves[1].To.Cell }},
		{"Lives[0].Txn", 79, 1, func(e *api.Entry) *int { return &e.Lives[0].Txn }},
		{"Lives[0].Last", 80, 3, func(e *api.Entry) *int { return &e.Lives[0].Last }},
		{"Lives[0].Next", 83, 3, func(e *api.Entry) *int { return &e.Lives[0].Next }},
		{"Lives[1].Txn", 87, 1, func(e *api.Entry) *int { return &e.Lives[1].Txn }},
		{"Lives[1].Last", 88, 3, func(e *api.Entry) *int { return &e.Lives[1].Last }},
		{"Lives[1].Next", 91, 3, func(e *api.Entry) *int { return &e.Lives[1].Next }},
		{"Dirty[0].Page", 96, 1, func(e *api.Entry) *int { return &e.Dirty[0].Page }},
		{"Dirty[0].Rec", 97, 3, func(e *api.Entry) *int { return &e.Dirty[0].Rec }},
		{"Dirty[1].Page", 100, 1, func(e *api.Entry) *int { return &e.Dirty[1].Page }},
		{"Dirty[1].Rec", 101, 3, func(e *api.Entry) *int { return &e.Dirty[1].Rec }},
		{"Open[0].Unit", 105, 2, func(e *api.Entry) *int { return &e.Open[0].Unit }},
		{"Open[0].Done", 107, 1, func(e *api.Entry) *int { return &e.Open[0].Done }},
		{"Open[0].Moves[0].From.Page", 109, 1, func(e *api.Entry) *int { return &e.Open[0].Moves[0].From.Page }},
		{"Open[0].Moves[0].From.Cell", 110, 1, func(e *api.Entry) *int { return &e.Open[0].Moves[0].From.Cell }},
		{"Open[0].Moves[0].To.Page", 111, 1, func(e *api.Entry) *int { return &e.Open[0].Moves[0].To.Page }},
		{"Open[0].Moves[0].To.Cell", 112, 1, func(e *api.Entry) *int { return &e.Open[0].Moves[0].To.Cell }},
		{"Open[0].Moves[1].From.Page", 113, 1, func(e *api.Entry) *int { return &e.Open[0].Moves[1].From.Page }},
		{"Open[0].Moves[1].To.Cell", 116, 1, func(e *api.Entry) *int { return &e.Open[0].Moves[1].To.Cell }},
		{"Open[1].Unit", 117, 2, func(e *api.Entry) *int { return &e.Open[1].Unit }},
		{"Open[1].Done", 119, 1, func(e *api.Entry) *int { return &e.Open[1].Done }},
		{"Open[1].Moves[0].From.Page", 121, 1, func(e *api.Entry) *int { return &e.Open[1].Moves[0].From.Page }},
		{"Open[1].Moves[0].From.Cell", 122, 1, func(e *api.Entry) *int { return &e.Open[1].Moves[0].From.Cell }},
		{"Open[1].Moves[0].To.Page", 123, 1, func(e *api.Entry) *int { return &e.Open[1].Moves[0].To.Page }},
		{"Open[1].Moves[0].To.Cell", 124, 1, func(e *api.Entry) *int { return &e.Open[1].Moves[0].To.Cell }},
	}
}

// texts are the fields of bytes.
func texts() []func(e *api.Entry) *[]byte {
	return []func(e *api.Entry) *[]byte{
		func(e *api.Entry) *[]byte { return &e.Old },
		func(e *api.Entry) *[]byte { return &e.New },
	}
}

// list is a list of a full entry: how it gets that many elements of zeros, and in how many bytes one of them is.
type list struct {
	name string
	size int
	set  func(e *api.Entry, n int)
}

func lists() []list {
	return []list{
		{"Moves", 4, func(e *api.Entry, n int) { e.Moves = make([]api.Move, n) }},
		{"Lives", 8, func(e *api.Entry, n int) { e.Lives = make([]api.Live, n) }},
		{"Dirty", 4, func(e *api.Entry, n int) { e.Dirty = make([]api.Dirty, n) }},
		{"Open", 4, func(e *api.Entry, n int) { e.Open = make([]api.Open, n) }},
		{"Open[0].Moves", 4, func(e *api.Entry, n int) { e.Open[0].Moves = make([]api.Move, n) }},
		{"Open[1].Moves", 4, func(e *api.Entry, n int) { e.Open[1].Moves = make([]api.Move, n) }},
	}
}

// filled is n bytes that ascend from c.
func filled(n int, c byte) []byte {
	b := make([]byte, n)
	for i := range b {
		b[i] = c + byte(i)
	}
	return b
}

func move(fromPage, fromCell, toPage, toCell int) api.Move {
	return api.Move{From: api.RID{Page: fromPage, Cell: fromCell}, To: api.RID{Page: toPage, Cell: toCell}}
}

// full is an entry with something else in each field.
func full() api.Entry {
	return api.Entry{
		Kind: api.EntMark, Txn: 2, Unit: 0x0304, Half: 5, Prev: 0x060708, Next: 0x090a0b,
		At: api.RID{Page: 12, Cell: 13}, To: api.RID{Page: 14, Cell: 15},
		Old: filled(api.CellSize, 'A'), New: filled(api.CellSize, 'a'),
		Moves: []api.Move{move(20, 21, 22, 23), move(24, 25, 26, 27)},
		Lives: []api.Live{{Txn: 30, Last: 0x313233, Next: 0x343536, Commit: true}, {Txn: 37, Last: 0x38393a, Next: 0x3b3c3d}},
		Dirty: []api.Dirty{{Page: 128, Rec: 0x818283}, {Page: 132, Rec: 0x858687}},
		Open: []api.Open{
			{Unit: 0x9091, Done: 146, Moves: []api.Move{move(150, 151, 152, 153), move(154, 155, 156, 157)}},
			{Unit: 0xa0a1, Done: 162, Moves: []api.Move{move(166, 167, 168, 169)}},
		},
	}
}

// fullBytes is the encoding of a full entry.
func fullBytes() []byte {
	return []byte("\x09\x02\x03\x04\x05\x06\x07\x08\x09\x0a\x0b\x0c\x0d\x0e\x0f" +
		"\x1aABCDEFGHIJKLMNOPQRSTUVWXYZ\x1aabcdefghijklmnopqrstuvwxyz" +
		"\x02\x14\x15\x16\x17\x18\x19\x1a\x1b" +
		"\x02\x1e\x31\x32\x33\x34\x35\x36\x01\x25\x38\x39\x3a\x3b\x3c\x3d\x00" +
		"\x02\x80\x81\x82\x83\x84\x85\x86\x87" +
		"\x02\x90\x91\x92\x02\x96\x97\x98\x99\x9a\x9b\x9c\x9d\xa0\xa1\xa2\x01\xa6\xa7\xa8\xa9")
}

// plainBytes is the encoding of an entry of zeros but for its Kind.
func plainBytes(kind byte) []byte {
	return append([]byte{kind}, make([]byte, 20)...)
}

// turned is b with another byte at a place.
func turned(b []byte, at int, to byte) []byte {
	b = slices.Clone(b)
	b[at] = to
	return b
}

// equal compares without package entry; a nil list and an empty one are equal.
func equal(a, b api.Entry) bool {
	return reflect.DeepEqual(plain(a), plain(b))
}

// plain is e with nil lists for empty ones.
func plain(e api.Entry) api.Entry {
	e.Old, e.New = some(e.Old), some(e.New)
	e.Moves, e.Lives, e.Dirty = some(e.Moves), some(e.Lives), some(e.Dirty)
	e.Open = some(slices.Clone(e.Open))
	for i := range e.Open {
		e.Open[i].Moves = some(e.Open[i].Moves)
	}
	return e
}

func some[T any](l []T) []T {
	if len(l) == 0 {
		return nil
	}
	return l
}

// isZero tells of an entry whether no field of it has anything.
func isZero(e api.Entry) bool {
	return reflect.DeepEqual(plain(e), api.Entry{})
}

func wantMay(t *testing.T, what string, e api.Entry) {
	t.Helper()
	b := entry.Put(e)
	if !entry.May(e) || len(b) == 0 {
		t.Errorf("%s: May(%+v): %t; Put: %v", what, e, entry.May(e), b)
		return
	}
	wantTake(t, b, e)
}

func wantMayNot(t *testing.T, what string, e api.Entry) {
	t.Helper()
	if b := entry.Put(e); entry.May(e) || b != nil {
		t.Errorf("%s: May(%+v): %t; Put: %v", what, e, entry.May(e), b)
	}
}

func wantPut(t *testing.T, what string, e api.Entry, asked []byte) {
	t.Helper()
	if b := entry.Put(e); !entry.May(e) || !bytes.Equal(b, asked) {
		t.Errorf("%s: Put(%+v): %x; asked for: %x", what, e, b, asked)
	}
}

func wantTake(t *testing.T, b []byte, asked api.Entry) {
	t.Helper()
	e, err := entry.Take(b)
	if err != api.OK || !equal(e, asked) || !entry.Same(e, asked) {
		t.Errorf("Take(%x): %+v, %d; asked for: %+v", b, e, err, asked)
	}
}

func wantNoTake(t *testing.T, what string, b []byte) {
	t.Helper()
	if e, err := entry.Take(b); err != api.ErrForm || !isZero(e) {
		t.Errorf("%s: Take(%x): %+v, %d", what, b, e, err)
	}
}

func wantSame(t *testing.T, what string, a, b api.Entry, asked bool) {
	t.Helper()
	if entry.Same(a, b) != asked || entry.Same(b, a) != asked {
		t.Errorf("%s: Same(%+v, %+v): %t, and the other way round %t", what, a, b, entry.Same(a, b), entry.Same(b, a))
	}
}

// P5.1 May

func TestMayOfKinds(t *testing.T) {
	for kind := api.EntSet; kind <= api.EntTurn; kind++ {
		wantMay(t, "a plain entry", api.Entry{Kind: kind})
		e := full()
		e.Kind = kind
		wantMay(t, "a full entry", e)
	}
	for _, kind := range []int{api.EntSet - 1, api.EntTurn + 1, -1, 255, 256, 256 + api.EntSet, 1<<32 + api.EntSet, math.MinInt, math.MinInt + api.EntSet, math.MaxInt} {
		wantMayNot(t, "a plain entry", api.Entry{Kind: kind})
		e := full()
		e.Kind = kind
		wantMayNot(t, "a full entry", e)
	}
}

func TestMayOfNumbers(t *testing.T) {
	for _, f := range fields() {
		most := 1<<(8*f.size) - 1
		for _, n := range []int{0, 1, 127, 128, 255, most/2 + 1, most - 1, most} {
			e := full()
			*f.number(&e) = n
			wantMay(t, f.name, e)
		}
		for _, n := range []int{-1, -2, -128, -255, -most, -most - 1, most + 1, most + 2, 1 << 30, 1 << 32, 1<<32 + 1, 1 << 56, math.MinInt, math.MinInt + 1, math.MaxInt} {
			e := full()
			*f.number(&e) = n
			wantMayNot(t, f.name, e)
		}
	}
}

func TestMayOfNumbersInEachElement(t *testing.T) {
	for i := range 40 {
		for _, set := range []func(e *api.Entry, n int){
			func(e *api.Entry, n int) { e.Moves = make([]api.Move, 40); e.Moves[i].To.Cell = n },
			func(e *api.Entry, n int) { e.Lives = make([]api.Live, 40); e.Lives[i].Txn = n },
			func(e *api.Entry, n int) { e.Dirty = make([]api.Dirty, 40); e.Dirty[i].Page = n },
			func(e *api.Entry, n int) { e.Open = make([]api.Open, 40); e.Open[i].Done = n },
			func(e *api.Entry, n int) {
				e.Open = make([]api.Open, 40)
				e.Open[i].Moves = make([]api.Move, 40)
				e.Open[i].Moves[39-i].From.Page = n
			},
		} {
			for _, n := range []int{0, 255} {
				e := full()
				set(&e, n)
				wantMay(t, "forty", e)
			}
			for _, n := range []int{-1, 256} {
				e := full()
				set(&e, n)
				wantMayNot(t, "forty", e)
			}
		}
	}
}

func TestMayOfOldAndNew(t *testing.T) {
	for i, text := range texts() {
		for n := range 600 {
			for _, b := range [][]byte{make([]byte, n), filled(n, 1)} {
				e := full()
				*text(&e) = b
				if n == 0 || n == api.CellSize {
					wantMay(t, "a text", e)
				} else {
					wantMayNot(t, "a text", e)
				}
			}
		}
		e := full()
		*text(&e) = nil
		wantMay(t, "no text", e)
		// What is too short in one of them does not make up for what is too long in the other one.
		*text(&e), *texts()[1-i](&e) = make([]byte, 25), make([]byte, 27)
		wantMayNot(t, "two texts", e)
	}
}

func TestMayOfLists(t *testing.T) {
	for _, l := range lists() {
		for _, n := range []int{0, 1, 2, 39, 40} {
			e := full()
			l.set(&e, n)
			wantMay(t, l.name, e)
		}
		for _, n := range []int{41, 42, 255, 256, 257, 256 + 40, 1 << 16, 1<<16 + 1} {
			e := full()
			l.set(&e, n)
			wantMayNot(t, l.name, e)
		}
	}
	e := api.Entry{Kind: api.EntSet, Open: make([]api.Open, 40)}
	for i := range e.Open {
		e.Open[i].Moves = make([]api.Move, 40)
		wantMay(t, "Moves of many", e)
	}
	for i := range e.Open {
		e.Open[i].Moves = make([]api.Move, 41)
		wantMayNot(t, "Moves of many", e)
		e.Open[i].Moves = nil
	}
}

// P5.1 Put

func TestPutOfAllFields(t *testing.T) {
	wantPut(t, "a full entry", full(), fullBytes())
	for kind := api.EntSet; kind <= api.EntTurn; kind++ {
		wantPut(t, "a plain entry", api.Entry{Kind: kind}, plainBytes(byte(kind)))
		e := full()
		e.Kind = kind
		wantPut(t, "another kind", e, turned(fullBytes(), 0, byte(kind)))
	}
	wantPut(t, "an end", api.Entry{Kind: api.EntEnd, Txn: 3}, append([]byte{5, 3}, make([]byte, 19)...))
}

func TestPutOfEachNumber(t *testing.T) {
	for _, f := range fields() {
		for i := range f.size {
			for c := range 256 {
				asked := fullBytes()
				clear(asked[f.at : f.at+f.size])
				asked[f.at+i] = byte(c)
				e := full()
				*f.number(&e) = c << (8 * (f.size - 1 - i))
				wantPut(t, f.name, e, asked)
			}
		}
		asked := fullBytes()
		copy(asked[f.at:], bytes.Repeat([]byte{255}, f.size))
		e := full()
		*f.number(&e) = 1<<(8*f.size) - 1
		wantPut(t, f.name, e, asked)
	}
	for i := range 2 {
		e := full()
		e.Lives[i].Commit = !e.Lives[i].Commit
		wantPut(t, "Commit", e, turned(fullBytes(), commitAt[i], byte(i)))
	}
}

func TestPutOfOldAndNew(t *testing.T) {
	b := fullBytes()
	noOld := append(turned(b[:oldAt], oldLenAt, 0), b[newLenAt:]...)
	noNew := append(turned(b[:newAt], newLenAt, 0), b[movesAt:]...)
	for _, empty := range [][]byte{nil, {}, filled(9, 1)[:0]} {
		e := full()
		e.Old = empty
		wantPut(t, "no Old", e, noOld)
		e = full()
		e.New = empty
		wantPut(t, "no New", e, noNew)
	}
	// Zeros are not the same as nothing.
	e := full()
	e.Old, e.New = make([]byte, api.CellSize), make([]byte, api.CellSize)
	asked := fullBytes()
	clear(asked[oldAt:newLenAt])
	clear(asked[newAt:movesAt])
	wantPut(t, "zeros", e, asked)
}

func TestPutOfLists(t *testing.T) {
	for i, l := range lists() {
		for _, n := range []int{0, 1, 2, 39, 40} {
			e, b := full(), fullBytes()
			l.set(&e, n)
			asked := slices.Concat(b[:listsAt[i]], []byte{byte(n)}, make([]byte, n*l.size), b[listsEnd[i]:])
			wantPut(t, l.name, e, asked)
		}
	}
	e := full()
	e.Moves, e.Lives, e.Dirty, e.Open = []api.Move{}, []api.Live{}, []api.Dirty{}, []api.Open{}
	wantPut(t, "empty lists", e, append(fullBytes()[:movesAt], 0, 0, 0, 0))
}

// P5.1 Take

func TestTakeReturnsWhatPutHasEncoded(t *testing.T) {
	wantTake(t, fullBytes(), full())
	for _, f := range fields() {
		for i := range 8 * f.size {
			e := full()
			*f.number(&e) = 1 << i
			wantTake(t, entry.Put(e), e)
		}
	}
	for _, l := range lists() {
		for n := range 41 {
			e := full()
			l.set(&e, n)
			wantTake(t, entry.Put(e), e)
		}
	}
	e := api.Entry{Kind: api.EntMark}
	for i := range 40 {
		e.Moves = append(e.Moves, move(i, i+1, i+2, i+3))
		e.Lives = append(e.Lives, api.Live{Txn: i, Last: i << 16, Next: i << 8, Commit: i%3 == 1})
		e.Dirty = append(e.Dirty, api.Dirty{Page: i, Rec: 1<<24 - 1 - i})
		e.Open = append(e.Open, api.Open{Unit: i << 10, Done: 255 - i, Moves: slices.Clone(e.Moves)})
		wantTake(t, entry.Put(e), e)
	}
}

func TestTakeRefusesWhatIsCutOff(t *testing.T) {
	e := full()
	e.Moves, e.Open[1].Moves = nil, nil
	for _, b := range [][]byte{fullBytes(), plainBytes(1), plainBytes(10), entry.Put(e)} {
		if _, err := entry.Take(b); err != api.OK {
			t.Fatalf("Take(%x): %d", b, err)
		}
		for n := range b {
			wantNoTake(t, "cut off", b[:n])
			wantNoTake(t, "cut off in front", b[n+1:])
		}
	}
	wantNoTake(t, "nothing", nil)
	wantNoTake(t, "nothing", []byte{})
}

func TestTakeRefusesLengthsThatAreGreaterThanWhatIsLeft(t *testing.T) {
	wantNoTake(t, "cut off behind a length", append([]byte{5, 3}, append(make([]byte, 13), api.CellSize)...))
	b := fullBytes()
	for _, at := range lensAt {
		for n := range 256 {
			for left := range min(n, 60) {
				whole := turned(slices.Concat(b[:at+1], filled(left, 1)), at, byte(n))
				wantNoTake(t, "cut off behind a length", whole)
			}
		}
	}
	for _, at := range listsAt {
		for n := 1; n < 256; n++ {
			for left := range 4 {
				whole := turned(slices.Concat(b[:at+1], make([]byte, left)), at, byte(n))
				wantNoTake(t, "cut off behind a number of elements", whole)
			}
		}
	}
}

func TestTakeRefusesBytesBehind(t *testing.T) {
	for _, b := range [][]byte{fullBytes(), plainBytes(1), plainBytes(5)} {
		for c := range 256 {
			wantNoTake(t, "a byte more", append(slices.Clone(b), byte(c)))
			wantNoTake(t, "two bytes more", append(slices.Clone(b), byte(c), 0))
		}
		wantNoTake(t, "zeros behind", append(slices.Clone(b), make([]byte, 300)...))
		wantNoTake(t, "twice", slices.Concat(b, b))
	}
}

func TestTakeRefusesOtherKinds(t *testing.T) {
	for kind := range 256 {
		if kind < api.EntSet || kind > api.EntTurn {
			wantNoTake(t, "a full entry", turned(fullBytes(), 0, byte(kind)))
			wantNoTake(t, "a plain entry", plainBytes(byte(kind)))
		}
	}
}

func TestTakeRefusesOtherLengthsOfOldAndNew(t *testing.T) {
	b := fullBytes()
	for _, at := range lensAt {
		for n := range 256 {
			if n == 0 || n == api.CellSize {
				continue
			}
			wantNoTake(t, "a length alone", turned(b, at, byte(n)))
			// Here as many bytes follow as the length says.
			wantNoTake(t, "a length", slices.Concat(b[:at], []byte{byte(n)}, filled(n, 1), b[at+27:]))
			wantNoTake(t, "a length", slices.Concat(b[:at], []byte{byte(n)}, make([]byte, n), b[at+27:]))
		}
		wantNoTake(t, "no length", turned(b, at, 0))
	}
}

func TestTakeRefusesLongLists(t *testing.T) {
	b := fullBytes()
	for i, l := range lists() {
		for n := range 256 {
			whole := slices.Concat(b[:listsAt[i]], []byte{byte(n)}, make([]byte, n*l.size), b[listsEnd[i]:])
			e := full()
			if l.set(&e, n); n <= 40 {
				wantTake(t, whole, e)
			} else {
				wantNoTake(t, l.name, whole)
			}
		}
	}
}

func TestTakeRefusesOtherCommits(t *testing.T) {
	for i, at := range commitAt {
		for c := range 256 {
			e := full()
			if e.Lives[i].Commit = c == 1; c <= 1 {
				wantTake(t, turned(fullBytes(), at, byte(c)), e)
			} else {
				wantNoTake(t, "a Commit", turned(fullBytes(), at, byte(c)))
			}
		}
	}
}

// TestTakeAnswersExactlyTheEncodings turns every byte to every value: all bytes of numbers, and of Old and New, may have any.
func TestTakeAnswersExactlyTheEncodings(t *testing.T) {
	var fixed [fullLen]bool
	for _, at := range slices.Concat(listsAt, lensAt, commitAt, []int{0}) {
		fixed[at] = true
	}
	for at := range fullLen {
		for c := range 256 {
			b := turned(fullBytes(), at, byte(c))
			e, err := entry.Take(b)
			switch {
			case err == api.OK && (!entry.May(e) || !bytes.Equal(entry.Put(e), b)):
				t.Errorf("Take(%x): %+v, whose encoding is %x", b, e, entry.Put(e))
			case err != api.OK && !fixed[at]:
				t.Errorf("Take with %d at %d: %d", c, at, err)
			case err != api.OK && (err != api.ErrForm || !isZero(e)):
				t.Errorf("Take(%x): %+v, %d", b, e, err)
			}
		}
	}
}

func TestTakeOfAnyBytesEnds(t *testing.T) {
	seed := uint32(1)
	next := func() byte {
		seed = seed*1664525 + 1013904223
		return byte(seed >> 24)
	}
	taken := 0
	for range 200000 {
		// Small bytes are lengths that may be.
		b := plainBytes(1 + next()%api.EntTurn)
		for range next() % 4 {
			b[15+next()%6] = next() % 3
		}
		b = append(b, make([]byte, next()%40)...)
		for range next() % 3 {
			b[int(next())%len(b)] = next() % 30
		}
		if e, err := entry.Take(b); err == api.OK {
			taken++
			wantPut(t, "what was taken", e, b)
		} else if err != api.ErrForm || !isZero(e) {
			t.Fatalf("Take(%x): %+v, %d", b, e, err)
		}
	}
	if taken < 1000 {
		t.Errorf("only %d were taken", taken)
	}
	for _, c := range []byte{0, 1, 26, 40, 255} {
		wantNoTake(t, "one byte again and again", bytes.Repeat([]byte{c}, 1<<20))
	}
}

// P5.1 Same

func TestSameOfEqualEntries(t *testing.T) {
	wantSame(t, "none", api.Entry{}, api.Entry{}, true)
	wantSame(t, "full", full(), full(), true)
	e := full()
	wantSame(t, "itself", e, e, true)
	// Same compares also what is not valid.
	odd := func() api.Entry {
		return api.Entry{Kind: -1, Txn: 1 << 40, Old: make([]byte, 3), Moves: make([]api.Move, 300), Open: []api.Open{{Done: -4}}}
	}
	wantSame(t, "not valid", odd(), odd(), true)
	for at := range 4 {
		a, b := odd(), odd()
		[]func(){func() { b.Kind = -2 }, func() { b.Old = make([]byte, 4) }, func() { b.Moves[299].To.Cell = 1 }, func() { b.Open[0].Done = -3 }}[at]()
		wantSame(t, "not valid", a, b, false)
	}
}

func TestSameSeesEachNumber(t *testing.T) {
	all := append(fields(), field{"Kind", 0, 1, func(e *api.Entry) *int { return &e.Kind }})
	for _, f := range all {
		e := full()
		was := *f.number(&e)
		for _, n := range []int{0, -1, was + 1, was - 1, -was, was + 256, was + 1<<16, was + 1<<24, was + 1<<32, math.MaxInt, math.MinInt} {
			e := full()
			*f.number(&e) = n
			wantSame(t, f.name, e, full(), false)
		}
	}
	for i := range 2 {
		e := full()
		e.Lives[i].Commit = !e.Lives[i].Commit
		wantSame(t, "Commit", e, full(), false)
	}
}

func TestSameSeesEachByte(t *testing.T) {
	for _, text := range texts() {
		for i := range api.CellSize {
			e := full()
			(*text(&e))[i] ^= 0x40
			wantSame(t, "a byte", e, full(), false)
		}
		for _, n := range []int{0, 1, api.CellSize - 1} {
			e := full()
			*text(&e) = (*text(&e))[:n]
			wantSame(t, "fewer bytes", e, full(), false)
		}
		e := full()
		*text(&e) = append(*text(&e), 0)
		wantSame(t, "more bytes", e, full(), false)
		// Zeros are not the same as nothing.
		a, b := full(), full()
		*text(&a), *text(&b) = nil, make([]byte, api.CellSize)
		wantSame(t, "zeros", a, b, false)
	}
	e := full()
	e.Old, e.New = e.New, e.Old
	wantSame(t, "changed about", e, full(), false)
}

func TestSameSeesLengths(t *testing.T) {
	for _, l := range lists() {
		for n := range 5 {
			for m := range 5 {
				a, b := full(), full()
				l.set(&a, n)
				l.set(&b, m)
				wantSame(t, l.name, a, b, n == m)
			}
		}
	}
	for _, cut := range []func(e *api.Entry){
		func(e *api.Entry) { e.Moves = e.Moves[:1] },
		func(e *api.Entry) { e.Moves = e.Moves[1:] },
		func(e *api.Entry) { e.Lives = e.Lives[:1] },
		func(e *api.Entry) { e.Lives = e.Lives[1:] },
		func(e *api.Entry) { e.Dirty = e.Dirty[:1] },
		func(e *api.Entry) { e.Dirty = e.Dirty[1:] },
		func(e *api.Entry) { e.Open = e.Open[:1] },
		func(e *api.Entry) { e.Open = e.Open[1:] },
		func(e *api.Entry) { e.Open[0].Moves = e.Open[0].Moves[:1] },
		func(e *api.Entry) { e.Open[1].Moves = nil },
		func(e *api.Entry) { slices.Reverse(e.Moves) },
		func(e *api.Entry) { slices.Reverse(e.Lives) },
		func(e *api.Entry) { slices.Reverse(e.Dirty) },
		func(e *api.Entry) { slices.Reverse(e.Open) },
		func(e *api.Entry) { slices.Reverse(e.Open[0].Moves) },
	} {
		e := full()
		cut(&e)
		wantSame(t, "a list", e, full(), false)
	}
}

func TestSameOfNilAndEmpty(t *testing.T) {
	empty := api.Entry{Old: []byte{}, New: []byte{}, Moves: []api.Move{}, Lives: []api.Live{}, Dirty: []api.Dirty{}, Open: []api.Open{}}
	wantSame(t, "empty", api.Entry{}, empty, true)
	a, b := full(), full()
	a.Open[1].Moves, b.Open[1].Moves = nil, []api.Move{}
	wantSame(t, "empty", a, b, true)
}

// R3

// roomy is a full entry with something in the unused capacity of each list.
func roomy() api.Entry {
	e := full()
	e.Old = append(e.Old, filled(30, 'x')...)[:api.CellSize]
	e.New = append(e.New, filled(30, 'x')...)[:api.CellSize]
	e.Moves = append(e.Moves, move(1, 1, 1, 1))[:2]
	e.Lives = append(e.Lives, api.Live{Txn: 1})[:2]
	e.Dirty = append(e.Dirty, api.Dirty{Page: 1})[:2]
	e.Open = append(e.Open, api.Open{Unit: 1})[:2]
	for i, o := range e.Open {
		e.Open[i].Moves = append(o.Moves, move(1, 1, 1, 1))[:len(o.Moves)]
	}
	return e
}

// room is e with all of the capacity of its lists.
func room(e api.Entry) api.Entry {
	e.Old, e.New = e.Old[:cap(e.Old)], e.New[:cap(e.New)]
	e.Moves, e.Lives, e.Dirty = e.Moves[:cap(e.Moves)], e.Lives[:cap(e.Lives)], e.Dirty[:cap(e.Dirty)]
	e.Open = slices.Clone(e.Open[:cap(e.Open)])
	for i, o := range e.Open {
		e.Open[i].Moves = o.Moves[:cap(o.Moves)]
	}
	return e
}

// spoil overwrites all that e shares with others.
func spoil(e api.Entry) {
	for _, b := range [][]byte{e.Old, e.New} {
		for i := range b[:cap(b)] {
			b[:cap(b)][i] = '#'
		}
	}
	spoilMoves(e.Moves)
	for _, o := range e.Open {
		spoilMoves(o.Moves)
	}
	for i := range e.Lives[:cap(e.Lives)] {
		e.Lives[:cap(e.Lives)][i] = api.Live{Txn: 99, Last: 99, Next: 99}
	}
	for i := range e.Dirty[:cap(e.Dirty)] {
		e.Dirty[:cap(e.Dirty)][i] = api.Dirty{Page: 99, Rec: 99}
	}
	clear(e.Open[:cap(e.Open)])
}

func spoilMoves(l []api.Move) {
	for i := range l[:cap(l)] {
		l[:cap(l)][i] = move(99, 99, 99, 99)
	}
}

func TestArgumentsAreNotChanged(t *testing.T) {
	asked := room(roomy())
	e, other := roomy(), roomy()
	entry.May(e)
	entry.Put(e)
	if !entry.Same(e, other) || !reflect.DeepEqual(room(e), asked) || !reflect.DeepEqual(room(other), asked) {
		t.Errorf("an argument was changed: %+v, %+v", room(e), room(other))
	}
	for _, b := range [][]byte{fullBytes(), turned(fullBytes(), 0, 0), turned(fullBytes(), openAt, 41)} {
		whole := append(slices.Clone(b), filled(40, 'x')...)
		keep := slices.Clone(whole)
		entry.Take(whole[:fullLen])
		if !bytes.Equal(whole, keep) {
			t.Errorf("Take changed its argument: %x", whole)
		}
	}
}

func TestArgumentsAreNotKept(t *testing.T) {
	e := roomy()
	b := entry.Put(e)
	spoil(e)
	if !bytes.Equal(b, fullBytes()) {
		t.Errorf("Put's answer changed with its argument: %x", b)
	}
	clear(b[:cap(b)])
	wantPut(t, "a later Put", full(), fullBytes())

	c := append(fullBytes(), filled(40, 'x')...)
	taken, _ := entry.Take(c[:fullLen])
	clear(c)
	if !equal(taken, full()) {
		t.Errorf("Take's answer changed with its argument: %+v", taken)
	}
}

func TestAnswersShareNoMemory(t *testing.T) {
	first, _ := entry.Take(fullBytes())
	second, _ := entry.Take(fullBytes())
	spoil(first)
	if !equal(second, full()) {
		t.Errorf("an earlier answer: %+v", second)
	}
	wantTake(t, fullBytes(), full())
}

func TestListsOfAnAnswerShareNoMemory(t *testing.T) {
	for i, use := range []func(e *api.Entry){
		func(e *api.Entry) { spoilBytes(e.Old); e.Old = full().Old },
		func(e *api.Entry) { spoilBytes(e.New); e.New = full().New },
		func(e *api.Entry) { spoilMoves(e.Moves); e.Moves = full().Moves },
		func(e *api.Entry) { spoilMoves(e.Open[0].Moves); e.Open[0].Moves = full().Open[0].Moves },
		func(e *api.Entry) { spoilMoves(e.Open[1].Moves); e.Open[1].Moves = full().Open[1].Moves },
	} {
		e, _ := entry.Take(fullBytes())
		if use(&e); !equal(e, full()) {
			t.Errorf("list %d is shared: %+v", i, e)
		}
	}
}

func spoilBytes(b []byte) {
	for i := range b[:cap(b)] {
		b[:cap(b)][i] = '#'
	}
}
