package cell_test

import (
	"bytes"
	"math"
	"slices"
	"strings"
	"testing"

	"whim/api"
	"whim/cell"
)

// Where the parts of a row stand in its cell.
const (
	keyAt = 1
	secAt = keyAt + 1 + api.MaxKey
	valAt = secAt + 1 + api.MaxSec
)

// word is n bytes, none of them 0.
func word(n int, from byte) string {
	return strings.Repeat(string([]byte{from, from + 1, from + 2}), n/3+1)[:n]
}

// filled is a row with parts of these lengths.
func filled(key, sec, val int) api.Row {
	return api.Row{Key: word(key, 'a'), Sec: word(sec, 'k'), Val: word(val, 'u')}
}

// lengths are those up to most, and those above it that look like small ones in a byte.
func lengths(most int) []int {
	l := []int{most + 1, most + 2, 255, 256, 257, 256 + most, 1 << 16, 1<<16 + 1}
	for n := range most + 1 {
		l = append(l, n)
	}
	return l
}

// rowBytes is the cell of a valid row, laid byte by byte.
func rowBytes(r api.Row) []byte {
	var b [api.CellSize]byte
	b[0] = 1
	b[keyAt], b[secAt], b[valAt] = byte(len(r.Key)), byte(len(r.Sec)), byte(len(r.Val))
	copy(b[keyAt+1:], r.Key)
	copy(b[secAt+1:], r.Sec)
	copy(b[valAt+1:], r.Val)
	return b[:]
}

// turned is b with another byte at a place.
func turned(b []byte, at int, to byte) []byte {
	b = slices.Clone(b)
	b[at] = to
	return b
}

func wantRow(t *testing.T, r api.Row) {
	t.Helper()
	if !cell.May(r) {
		t.Errorf("May(%q) is false", r)
	}
	b, e := cell.Row(r)
	if e != api.OK || !bytes.Equal(b, rowBytes(r)) {
		t.Fatalf("Row(%q): %v, %d", r, b, e)
	}
	wantRead(t, b, 1, r, api.RID{})
}

func wantNoRow(t *testing.T, r api.Row) {
	t.Helper()
	if cell.May(r) {
		t.Errorf("May of a row with %d, %d and %d bytes is true", len(r.Key), len(r.Sec), len(r.Val))
	}
	if b, e := cell.Row(r); e != api.ErrBad || b != nil {
		t.Errorf("Row with %d, %d and %d bytes: %v, %d", len(r.Key), len(r.Sec), len(r.Val), b, e)
	}
}

func wantNoStub(t *testing.T, to api.RID) {
	t.Helper()
	if b, e := cell.Stub(to); e != api.ErrBad || b != nil {
		t.Errorf("Stub(%v): %v, %d", to, b, e)
	}
}

func wantRead(t *testing.T, b []byte, kind int, r api.Row, to api.RID) {
	t.Helper()
	if k, q, at, e := cell.Read(b); k != kind || q != r || at != to || e != api.OK {
		t.Errorf("Read(%v): %d, %q, %v, %d; asked for: %d, %q, %v", b, k, q, at, e, kind, r, to)
	}
}

func wantNoRead(t *testing.T, b []byte) {
	t.Helper()
	if k, r, to, e := cell.Read(b); k != 0 || r != (api.Row{}) || to != (api.RID{}) || e != api.ErrForm {
		t.Errorf("Read(%v): %d, %q, %v, %d; asked for: ErrForm", b, k, r, to, e)
	}
}

// P3.1 May, Row

func TestRowsOfAllLengths(t *testing.T) {
	for _, key := range lengths(api.MaxKey) {
		for _, sec := range lengths(api.MaxSec) {
			for _, val := range lengths(api.MaxVal) {
				r := filled(key, sec, val)
				if key >= 1 && key <= 8 && sec <= 6 && val <= 8 {
					wantRow(t, r)
				} else {
					wantNoRow(t, r)
				}
			}
		}
	}
}

func TestRowIsLaidOutAsTheChapterSays(t *testing.T) {
	for _, c := range []struct {
		r     api.Row
		asked string
	}{
		{api.Row{Key: "ab", Sec: "c", Val: "def"}, "\x01\x02ab\x00\x00\x00\x00\x00\x00\x01c\x00\x00\x00\x00\x00\x03def\x00\x00\x00\x00\x00"},
		{api.Row{Key: "a"}, "\x01\x01a\x00\x00\x00\x00\x00\x00\x00\x00\x00\x00\x00\x00\x00\x00\x00\x00\x00\x00\x00\x00\x00\x00\x00"},
		{api.Row{Key: "12345678", Sec: "abcdef", Val: "ABCDEFGH"}, "\x01\x0812345678\x06abcdef\x08ABCDEFGH"},
		{api.Row{Key: "\x00", Val: "\xff"}, "\x01\x01\x00\x00\x00\x00\x00\x00\x00\x00\x00\x00\x00\x00\x00\x00\x00\x01\xff\x00\x00\x00\x00\x00\x00\x00"},
	} {
		if b, e := cell.Row(c.r); e != api.OK || string(b) != c.asked {
			t.Errorf("Row(%q): %v, %d", c.r, b, e)
		}
	}
}

func TestPartsAreBytesOfAnyValue(t *testing.T) {
	for c := range 256 {
		s := string([]byte{byte(c)})
		wantRow(t, api.Row{Key: s})
		wantRow(t, api.Row{Key: s, Sec: s, Val: s})
		wantRow(t, api.Row{Key: strings.Repeat(s, api.MaxKey), Sec: strings.Repeat(s, api.MaxSec), Val: strings.Repeat(s, api.MaxVal)})
		wantRow(t, api.Row{Key: s + "\x00", Sec: "\x00" + s, Val: s + "\x00\x00"})
	}
	// Bytes are counted, not runes.
	wantRow(t, api.Row{Key: "éééé", Sec: "ééé", Val: "éééé"})
	wantNoRow(t, api.Row{Key: "ééééé"})
	wantNoRow(t, api.Row{Key: "a", Sec: "éééé"})
	wantNoRow(t, api.Row{Key: "a", Val: "ééééé"})
}

// P3.1 Stub

func TestStubsOfAllPlaces(t *testing.T) {
	for page := range api.MaxPages {
		for c := range api.Cells {
			to := api.RID{Page: page, Cell: c}
			b, e := cell.Stub(to)
			if asked := append([]byte{2, byte(page), byte(c)}, make([]byte, 23)...); e != api.OK || !bytes.Equal(b, asked) {
				t.Fatalf("Stub(%v): %v, %d", to, b, e)
			}
			wantRead(t, b, 2, api.Row{}, to)
		}
	}
}

func TestStubRefusesWrongPlaces(t *testing.T) {
	wrong := []int{-1, -2, -255, -256, 255, 256, 257, 1 << 16, 1 << 32, math.MinInt, math.MaxInt}
	for _, page := range append(wrong, api.MaxPages, api.MaxPages+1) {
		for _, c := range []int{0, api.Cells - 1, api.Cells, -1} {
			wantNoStub(t, api.RID{Page: page, Cell: c})
		}
	}
	for _, c := range append(wrong, api.Cells, api.Cells+1) {
		for _, page := range []int{0, api.MaxPages - 1, api.MaxPages, -1} {
			wantNoStub(t, api.RID{Page: page, Cell: c})
		}
	}
}

// P3.2 Read

func TestReadOfEmptyCells(t *testing.T) {
	for _, b := range [][]byte{nil, {}, rowBytes(filled(3, 3, 3))[:0], make([]byte, api.CellSize)} {
		wantRead(t, b, 0, api.Row{}, api.RID{})
	}
}

func TestReadRefusesOtherLengths(t *testing.T) {
	stub, _ := cell.Stub(api.RID{Page: 1, Cell: 1})
	for _, whole := range [][]byte{make([]byte, api.CellSize), rowBytes(filled(3, 3, 3)), rowBytes(filled(1, 0, 0)), rowBytes(filled(8, 6, 8)), stub} {
		for n := 1; n <= 3*api.CellSize; n++ {
			if n != api.CellSize {
				wantNoRead(t, append(slices.Clone(whole), make([]byte, 2*api.CellSize)...)[:n])
			}
		}
		wantNoRead(t, whole[1:])
		wantNoRead(t, append([]byte{0}, whole...))
		wantNoRead(t, slices.Concat(whole, whole))
	}
}

func TestReadRefusesOtherKinds(t *testing.T) {
	// A page from 1 to MaxKey would do as the length of a key.
	row, stub := rowBytes(filled(3, 3, 3)), append([]byte{2, api.MaxKey + 1, 1}, make([]byte, 23)...)
	for k := range 256 {
		if k != 1 {
			wantNoRead(t, turned(row, 0, byte(k)))
		}
		if k != 2 {
			wantNoRead(t, turned(stub, 0, byte(k)))
		}
		if k > 2 {
			wantNoRead(t, turned(make([]byte, api.CellSize), 0, byte(k)))
		}
	}
	for at := 1; at < api.CellSize; at++ {
		wantNoRead(t, turned(make([]byte, api.CellSize), at, 1))
	}
}

func TestReadRefusesARowWithoutKey(t *testing.T) {
	wantNoRead(t, turned(make([]byte, api.CellSize), 0, 1))
	wantNoRead(t, rowBytes(filled(0, 6, 8)))
}

func TestReadRefusesLongParts(t *testing.T) {
	for _, r := range []api.Row{filled(8, 6, 8), filled(1, 0, 0), filled(1, 1, 1)} {
		for n := range 256 {
			if n > api.MaxKey {
				wantNoRead(t, turned(rowBytes(r), keyAt, byte(n)))
			}
			if n > api.MaxSec {
				wantNoRead(t, turned(rowBytes(r), secAt, byte(n)))
			}
			if n > api.MaxVal {
				wantNoRead(t, turned(rowBytes(r), valAt, byte(n)))
			}
		}
	}
}

func TestReadRefusesBytesBehindAPart(t *testing.T) {
	for key := 1; key <= api.MaxKey; key++ {
		for sec := range api.MaxSec + 1 {
			for val := range api.MaxVal + 1 {
				b := rowBytes(filled(key, sec, val))
				for _, behind := range [][2]int{{keyAt + 1 + key, secAt}, {secAt + 1 + sec, valAt}, {valAt + 1 + val, api.CellSize}} {
					for at := behind[0]; at < behind[1]; at++ {
						wantNoRead(t, turned(b, at, 1))
						wantNoRead(t, turned(b, at, 0x80))
					}
				}
			}
		}
	}
}

func TestReadOfStubs(t *testing.T) {
	for page := range 256 {
		for c := range 256 {
			b := append([]byte{2, byte(page), byte(c)}, make([]byte, 23)...)
			if page < 32 && c < 4 {
				wantRead(t, b, 2, api.Row{}, api.RID{Page: page, Cell: c})
			} else {
				wantNoRead(t, b)
			}
		}
	}
	for at := 3; at < api.CellSize; at++ {
		for to := 1; to < 256; to++ {
			wantNoRead(t, turned([]byte("\x02\x1f\x03\x00\x00\x00\x00\x00\x00\x00\x00\x00\x00\x00\x00\x00\x00\x00\x00\x00\x00\x00\x00\x00\x00\x00"), at, byte(to)))
		}
	}
}

// What follows

// isRow tells of any CellSize bytes whether a valid row has them as its cell, and which.
func isRow(b []byte) (r api.Row, ok bool) {
	key, sec, val := int(b[keyAt]), int(b[secAt]), int(b[valAt])
	if key < 1 || key > api.MaxKey || sec > api.MaxSec || val > api.MaxVal {
		return r, false
	}
	r = api.Row{
		Key: string(b[keyAt+1 : keyAt+1+key]),
		Sec: string(b[secAt+1 : secAt+1+sec]),
		Val: string(b[valAt+1 : valAt+1+val]),
	}
	return r, bytes.Equal(rowBytes(r), b)
}

func TestReadTakesExactlyWhatRowGives(t *testing.T) {
	taken := 0
	for _, r := range []api.Row{filled(1, 0, 0), filled(2, 1, 3), filled(8, 6, 8), filled(7, 5, 7), {Key: "\x00", Sec: "\x00\x00", Val: "a\x00"}} {
		for at := 1; at < api.CellSize; at++ {
			for to := range 256 {
				b := turned(rowBytes(r), at, byte(to))
				q, ok := isRow(b)
				if !ok {
					wantNoRead(t, b)
					continue
				}
				taken++
				wantRead(t, b, 1, q, api.RID{})
				if again, e := cell.Row(q); e != api.OK || !bytes.Equal(again, b) {
					t.Errorf("Row(%q): %v, %d, not %v", q, again, e, b)
				}
			}
		}
	}
	if taken < 1000 {
		t.Errorf("only %d cells were rows", taken)
	}
}

// R3

func TestArgumentsAreNeitherKeptNorChanged(t *testing.T) {
	for _, whole := range [][]byte{rowBytes(filled(2, 1, 3)), append([]byte{2, 31, 3}, make([]byte, 23)...), make([]byte, api.CellSize), turned(rowBytes(filled(2, 1, 3)), 9, 1)} {
		long := append(slices.Clone(whole), word(40, 'a')...)
		keep := slices.Clone(long)
		kind, r, to, e := cell.Read(long[:api.CellSize])
		if !bytes.Equal(long, keep) {
			t.Fatalf("Read changed its argument: %v", long)
		}
		asked := api.Row{Key: strings.Clone(r.Key), Sec: strings.Clone(r.Sec), Val: strings.Clone(r.Val)}
		for i := range long {
			long[i] = 'x'
		}
		if r != asked {
			t.Errorf("Read's answer changed with its argument: %d, %q, %v, %d", kind, r, to, e)
		}
	}
}

func TestAnswersShareNoMemory(t *testing.T) {
	r, to := filled(2, 1, 3), api.RID{Page: 31, Cell: 3}
	row, _ := cell.Row(r)
	stub, _ := cell.Stub(to)
	clear(row[:cap(row)])
	clear(stub[:cap(stub)])
	if b, e := cell.Row(r); e != api.OK || !bytes.Equal(b, rowBytes(r)) {
		t.Errorf("a later Row: %v, %d", b, e)
	}
	if b, e := cell.Stub(to); e != api.OK || !bytes.Equal(b, append([]byte{2, 31, 3}, make([]byte, 23)...)) {
		t.Errorf("a later Stub: %v, %d", b, e)
	}
}
