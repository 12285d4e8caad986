package sheet_test

import (
	"bytes"
	"math"
	"slices"
	"testing"

	"whim/api"
	"whim/sheet"
)

const (
	part = api.Tile - 4 // bytes of the body in a tile
	most = 1<<31 - 1    // the greatest number
)

// ramp is n bytes, none of them 0, in which no place within 250 looks like another.
func ramp(n int) []byte {
	b := make([]byte, n)
	for i := range b {
		b[i] = byte(i%250 + 1)
	}
	return b
}

// headed is a tile that begins with these four bytes and goes on with c only.
func headed(head string, c byte) []byte {
	return append([]byte(head), bytes.Repeat([]byte{c}, part)...)
}

func wantPut(t *testing.T, lsn int, body []byte) (a, b []byte) {
	t.Helper()
	a, b, e := sheet.Put(lsn, body)
	if e != api.OK || len(a) != api.Tile || len(b) != api.Tile {
		t.Fatalf("Put(%d) of %d bytes: %d and %d bytes, %d", lsn, len(body), len(a), len(b), e)
	}
	return a, b
}

func wantNoPut(t *testing.T, lsn int, body []byte) {
	t.Helper()
	if a, b, e := sheet.Put(lsn, body); e != api.ErrBad || a != nil || b != nil {
		t.Errorf("Put(%d) of %d bytes: %v, %v, %d", lsn, len(body), a, b, e)
	}
}

func wantTake(t *testing.T, a, b []byte, lsn int, body []byte) {
	t.Helper()
	n, c, e := sheet.Take(a, b)
	if e != api.OK || n != lsn || !bytes.Equal(c, body) {
		t.Errorf("Take: %d, %v, %d; asked for: %d, %v", n, c, e, lsn, body)
	}
}

func wantNoTake(t *testing.T, a, b []byte, asked api.Errno) {
	t.Helper()
	if n, c, e := sheet.Take(a, b); e != asked || n != 0 || c != nil {
		t.Errorf("Take of %v and %v: %d, %v, %d; asked for: %d", a, b, n, c, e, asked)
	}
}

// P2.1 Put

func TestPutSpreadsTheBodyOverTwoTiles(t *testing.T) {
	for n := range 2*part + 1 {
		body := ramp(n)
		all := slices.Concat(body, make([]byte, 2*part-n))
		a, b := wantPut(t, 258, body)
		if asked := slices.Concat([]byte{0, 0, 1, 2}, all[:part]); !bytes.Equal(a, asked) {
			t.Errorf("the first tile of %d bytes: %v, not %v", n, a, asked)
		}
		if asked := slices.Concat([]byte{0, 0, 1, 2}, all[part:]); !bytes.Equal(b, asked) {
			t.Errorf("the second tile of %d bytes: %v, not %v", n, b, asked)
		}
		wantTake(t, a, b, 258, all)
	}
}

func TestPutOfNoBody(t *testing.T) {
	for _, body := range [][]byte{nil, {}, ramp(9)[:0]} {
		a, b := wantPut(t, 0, body)
		if zeros := make([]byte, api.Tile); !bytes.Equal(a, zeros) || !bytes.Equal(b, zeros) {
			t.Errorf("Put: %v, %v", a, b)
		}
	}
}

func TestPutBeginsEachTileWithTheNumber(t *testing.T) {
	for lsn, head := range map[int]string{
		0:          "\x00\x00\x00\x00",
		1:          "\x00\x00\x00\x01",
		127:        "\x00\x00\x00\x7f",
		128:        "\x00\x00\x00\x80",
		255:        "\x00\x00\x00\xff",
		256:        "\x00\x00\x01\x00",
		258:        "\x00\x00\x01\x02",
		0xffff:     "\x00\x00\xff\xff",
		0x10000:    "\x00\x01\x00\x00",
		0xffffff:   "\x00\xff\xff\xff",
		0x1000000:  "\x01\x00\x00\x00",
		0x12345678: "\x12\x34\x56\x78",
		0x7f80ff01: "\x7f\x80\xff\x01",
		most - 1:   "\x7f\xff\xff\xfe",
		most:       "\x7f\xff\xff\xff",
	} {
		a, b := wantPut(t, lsn, bytes.Repeat([]byte{9}, 2*part))
		if asked := headed(head, 9); !bytes.Equal(a, asked) || !bytes.Equal(b, asked) {
			t.Errorf("Put(%d): %v, %v", lsn, a, b)
		}
		wantTake(t, a, b, lsn, bytes.Repeat([]byte{9}, 2*part))
	}
}

func TestPutRefusesWrongNumbers(t *testing.T) {
	for _, lsn := range []int{-1, -258, math.MinInt32, math.MinInt, most + 1, most + 2, 1<<32 - 1, 1 << 32, 1<<32 + 258, math.MaxInt} {
		for _, n := range []int{0, 1, 2 * part, 2*part + 1} {
			wantNoPut(t, lsn, ramp(n))
		}
	}
}

func TestPutRefusesLongBodies(t *testing.T) {
	for _, n := range []int{2*part + 1, 2*part + 2, 2 * api.Tile, 1000, 1 << 16} {
		for _, lsn := range []int{0, 258, most} {
			wantNoPut(t, lsn, ramp(n))
			wantNoPut(t, lsn, make([]byte, n))
		}
	}
}

// P2.1 Take

func TestTakeReturnsAllBytes(t *testing.T) {
	a, b := slices.Concat([]byte{1, 2, 3, 4}, ramp(2 * part)[:part]), slices.Concat([]byte{1, 2, 3, 4}, ramp(2 * part)[part:])
	wantTake(t, a, b, 0x01020304, ramp(2*part))
	wantTake(t, b, a, 0x01020304, slices.Concat(b[4:], a[4:]))
	wantTake(t, a, a, 0x01020304, slices.Concat(a[4:], a[4:]))
	zeros := make([]byte, api.Tile)
	wantTake(t, zeros, zeros, 0, make([]byte, 2*part))
}

func TestTakeDoesNotLookAtBodies(t *testing.T) {
	for c := range 256 {
		a, b := headed("\x7f\xff\xff\xff", byte(c)), headed("\x7f\xff\xff\xff", byte(255-c))
		wantTake(t, a, b, most, slices.Concat(a[4:], b[4:]))
	}
}

func TestTakeRefusesWhatIsNoTile(t *testing.T) {
	good := headed("\x00\x00\x00\x07", 1)
	for _, n := range []int{0, 1, 3, 4, 5, part, api.Tile - 1, api.Tile + 1, 2 * api.Tile, 1000} {
		bad := append(slices.Clone(good), make([]byte, 1000)...)[:n]
		wantNoTake(t, bad, good, api.ErrBad)
		wantNoTake(t, good, bad, api.ErrBad)
		wantNoTake(t, bad, bad, api.ErrBad)
	}
	wantNoTake(t, nil, good, api.ErrBad)
	wantNoTake(t, good, nil, api.ErrBad)
	wantNoTake(t, nil, nil, api.ErrBad)
	// Tile bytes each are asked for, not two tiles' bytes in all.
	wantNoTake(t, good[:api.Tile-1], append(slices.Clone(good), 0), api.ErrBad)
}

func TestTakeSeesTornHalves(t *testing.T) {
	for i := range 4 {
		for bit := range 8 {
			a, b := wantPut(t, 0x2a2b2c2d, ramp(2*part))
			b[i] ^= 1 << bit
			wantNoTake(t, a, b, api.ErrTorn)
			wantNoTake(t, b, a, api.ErrTorn)
		}
	}
	a, _ := wantPut(t, 7, ramp(2*part))
	_, b := wantPut(t, 8, ramp(2*part))
	wantNoTake(t, a, b, api.ErrTorn)
	_, b = wantPut(t, 7<<8, ramp(2*part))
	wantNoTake(t, a, b, api.ErrTorn)
}

func TestTakeRefusesNumbersAboveTheGreatest(t *testing.T) {
	for _, head := range []string{"\x80\x00\x00\x00", "\x80\x00\x00\x01", "\xff\x00\x00\x00", "\xff\xff\xff\xfe", "\xff\xff\xff\xff"} {
		wantNoTake(t, headed(head, 0), headed(head, 1), api.ErrForm)
	}
}

func TestTakeNamesTheFirstError(t *testing.T) {
	low, high, higher := headed("\x00\x00\x00\x00", 1), headed("\x80\x00\x00\x00", 1), headed("\x80\x00\x00\x01", 1)
	wantNoTake(t, low, high, api.ErrTorn) // and one number is too great
	wantNoTake(t, high, low, api.ErrTorn)
	wantNoTake(t, high, higher, api.ErrTorn) // and both are
	wantNoTake(t, high[1:], high, api.ErrBad)
	wantNoTake(t, low, high[1:], api.ErrBad)
	wantNoTake(t, append(slices.Clone(high), 0), higher, api.ErrBad)
}

// What follows

func TestHalvesOfDifferentWritesAreDetected(t *testing.T) {
	for older := range 300 {
		for newer := older + 1; newer < 300; newer++ {
			a, b := wantPut(t, older, nil)
			c, d := wantPut(t, newer, nil)
			wantNoTake(t, a, d, api.ErrTorn)
			wantNoTake(t, c, b, api.ErrTorn)
		}
	}
}

// R3

func TestArgumentsAreNeitherKeptNorChanged(t *testing.T) {
	for _, n := range []int{0, 10, part, part + 1, 2 * part} {
		long := ramp(300)
		a, b := wantPut(t, 5, long[:n])
		if !bytes.Equal(long, ramp(300)) {
			t.Fatalf("Put of %d bytes changed its argument: %v", n, long)
		}
		clear(long)
		wantTake(t, a, b, 5, slices.Concat(ramp(n), make([]byte, 2*part-n)))
	}
	long := slices.Concat(headed("\x00\x00\x00\x05", 1), headed("\x00\x00\x00\x05", 2), ramp(300))
	keep := slices.Clone(long)
	_, body, _ := sheet.Take(long[:api.Tile], long[api.Tile:2*api.Tile])
	if !bytes.Equal(long, keep) {
		t.Fatalf("Take changed its arguments: %v", long)
	}
	clear(long)
	if !bytes.Equal(body, slices.Concat(bytes.Repeat([]byte{1}, part), bytes.Repeat([]byte{2}, part))) {
		t.Errorf("Take's answer changed with its arguments: %v", body)
	}
}

func TestTheTwoTilesShareNoMemory(t *testing.T) {
	a, b := wantPut(t, 5, ramp(2*part))
	keepA, keepB := slices.Clone(a), slices.Clone(b)
	clear(append(a, 1)[:api.Tile+1])
	if !bytes.Equal(b, keepB) {
		t.Errorf("the second tile changed with the first one: %v", b)
	}
	a, b = wantPut(t, 5, ramp(2*part))
	clear(append(b, 1)[:api.Tile+1])
	if !bytes.Equal(a, keepA) {
		t.Errorf("the first tile changed with the second one: %v", a)
	}
	// Two answers to the same call do not share any either.
	c, _ := wantPut(t, 5, ramp(2*part))
	if !bytes.Equal(c, keepA) {
		t.Errorf("a later Put: %v", c)
	}
}
