package tile_test

import (
	"bytes"
	"math"
	"slices"
	"testing"

	"whim/api"
	"whim/tile"
)

// full is the content of a tile: Tile times c.
func full(c byte) []byte { return bytes.Repeat([]byte{c}, api.Tile) }

// text is a tile for each letter: the letter, if the whole tile consists of it, and '!' otherwise.
func text(d *tile.Disk) string {
	s := make([]byte, 0, d.Tiles())
	for i := range d.Tiles() {
		s = append(s, letter(d, i))
	}
	return string(s)
}

func letter(d *tile.Disk, at int) byte {
	b, e := d.Read(at)
	if e != api.OK || len(b) != api.Tile || !bytes.Equal(b, full(b[0])) {
		return '!'
	}
	if b[0] == 0 {
		return '0'
	}
	return b[0]
}

// written is a disk with a tile for each letter of synced, and over it what stands in loose ('.' leaves a tile as it is).
func written(t *testing.T, synced, loose string) *tile.Disk {
	t.Helper()
	d := tile.New(len(synced))
	for i := range len(synced) {
		want(t, "Write", d.Write(i, full(synced[i])), api.OK)
	}
	want(t, "Sync", d.Sync(), api.OK)
	for i := range len(loose) {
		if loose[i] != '.' {
			want(t, "Write", d.Write(i, full(loose[i])), api.OK)
		}
	}
	return d
}

func want[T comparable](t *testing.T, what string, got, asked T) {
	t.Helper()
	if got != asked {
		t.Errorf("%s: %v, not %v", what, got, asked)
	}
}

func wantLoose(t *testing.T, d *tile.Disk, asked ...int) {
	t.Helper()
	if got := d.Loose(); !slices.Equal(got, asked) {
		t.Errorf("Loose: %v, not %v", got, asked)
	}
}

// wantRead holds what Read answers against an error, with which no bytes come.
func wantRead(t *testing.T, d *tile.Disk, at int, e api.Errno) {
	t.Helper()
	b, got := d.Read(at)
	want(t, "Read", got, e)
	if e != api.OK && b != nil {
		t.Errorf("Read: bytes beside error %d", got)
	}
}

// P1.1

func TestNewHasSoManyTiles(t *testing.T) {
	for tiles, asked := range map[int]int{
		math.MinInt:       0,
		-1:                0,
		0:                 0,
		1:                 1,
		3:                 3,
		api.MaxTiles - 1:  api.MaxTiles - 1,
		api.MaxTiles:      api.MaxTiles,
		api.MaxTiles + 1:  api.MaxTiles,
		math.MaxInt:       api.MaxTiles,
		1<<32 + 1:         api.MaxTiles,
		-api.MaxTiles - 1: 0,
	} {
		d := tile.New(tiles)
		want(t, "Tiles", d.Tiles(), asked)
		want(t, "Dead", d.Dead(), false)
		wantLoose(t, d)
		wantRead(t, d, asked, api.ErrBad)
		want(t, "Write behind the end", d.Write(asked, full('a')), api.ErrBad)
		if asked > 0 {
			wantRead(t, d, 0, api.OK)
			want(t, "Write to the last one", d.Write(asked-1, full('a')), api.OK)
			want(t, "the last one", letter(d, asked-1), 'a')
		}
	}
}

func TestTilesAreZeroAtFirst(t *testing.T) {
	want(t, "New", text(tile.New(3)), "000")
}

func TestReadReturnsWhatWasStoredLast(t *testing.T) {
	d := tile.New(4)
	b := make([]byte, api.Tile)
	for i := range b {
		b[i] = byte(255 - i)
	}
	want(t, "Write", d.Write(2, full('x')), api.OK)
	want(t, "Write", d.Write(2, b), api.OK)
	want(t, "Write", d.Write(0, full('a')), api.OK)
	got, e := d.Read(2)
	if e != api.OK || !bytes.Equal(got, b) {
		t.Errorf("Read: %v, %v", got, e)
	}
	want(t, "beside it", letter(d, 0), 'a')
	want(t, "beside it", letter(d, 1), '0')
	want(t, "beside it", letter(d, 3), '0')
	want(t, "Write of zeros", d.Write(0, full(0)), api.OK)
	want(t, "zeros", letter(d, 0), '0')
}

func TestLooseTilesAscendAndSyncEndsThem(t *testing.T) {
	d := tile.New(12)
	wantLoose(t, d)
	for _, at := range []int{11, 3, 0, 7, 3} {
		want(t, "Write", d.Write(at, full('a')), api.OK)
	}
	wantLoose(t, d, 0, 3, 7, 11)
	want(t, "Sync", d.Sync(), api.OK)
	wantLoose(t, d)
	want(t, "Sync keeps contents", text(d), "a00a000a000a")
	want(t, "Write", d.Write(7, full('a')), api.OK)
	wantLoose(t, d, 7) // the same content: it was written all the same
	wantRead(t, d, 3, api.OK)
	wantLoose(t, d, 7)
	want(t, "Sync", d.Sync(), api.OK)
	want(t, "Sync of nothing", d.Sync(), api.OK)
	wantLoose(t, d)
}

func TestWrongWritesAndReadsChangeNothing(t *testing.T) {
	d := written(t, "abc", ".B.")
	for _, at := range []int{-1, 3, math.MinInt, math.MaxInt} {
		want(t, "Write: no such tile", d.Write(at, full('x')), api.ErrBad)
		wantRead(t, d, at, api.ErrBad)
	}
	for _, b := range [][]byte{nil, {}, {1}, full('x')[1:], append(full('x'), 'x')} {
		want(t, "Write: not Tile bytes", d.Write(0, b), api.ErrBad)
	}
	want(t, "contents", text(d), "aBc")
	wantLoose(t, d, 1)
	want(t, "Dead", d.Dead(), false)
}

func TestDiskWithoutTiles(t *testing.T) {
	for _, d := range []*tile.Disk{tile.New(0), tile.New(-5), {}} {
		want(t, "Write", d.Write(0, full('a')), api.ErrBad)
		wantRead(t, d, 0, api.ErrBad)
		want(t, "Sync", d.Sync(), api.OK)
		wantLoose(t, d)
		d.Arm(0, []byte{1})
		want(t, "Write isn't counted", d.Write(0, full('a')), api.ErrBad)
		c := d.Copy()
		want(t, "Sync of the copy", c.Sync(), api.ErrDown)
		want(t, "Sync", d.Sync(), api.ErrDown)
		want(t, "Dead", d.Dead(), true)
		d.Power()
		want(t, "Sync", d.Sync(), api.OK)
		d.Crash([]byte{255})
		want(t, "Dead", d.Dead(), true)
		want(t, "Tiles", d.Tiles(), 0)
	}
}

func TestErrorsOfDeadDiskComeFirst(t *testing.T) {
	d := written(t, "ab", "")
	d.Crash(nil)
	for _, at := range []int{0, 1, 2, -1} {
		for _, b := range [][]byte{full('x'), nil, {1}} {
			want(t, "Write", d.Write(at, b), api.ErrDown)
		}
		wantRead(t, d, at, api.ErrDown)
	}
	want(t, "Sync", d.Sync(), api.ErrDown)
	want(t, "Tiles", d.Tiles(), 2)
	wantLoose(t, d)
	d.Power()
	want(t, "contents", text(d), "ab")
}

func TestNilDisk(t *testing.T) {
	var d *tile.Disk
	d.Arm(0, []byte{1})
	d.Crash([]byte{1})
	d.Power()
	want(t, "Write", d.Write(0, full('a')), api.ErrBad)
	want(t, "Write", d.Write(-1, nil), api.ErrBad)
	wantRead(t, d, 0, api.ErrBad)
	want(t, "Sync", d.Sync(), api.ErrBad)
	want(t, "Dead", d.Dead(), false)
	want(t, "Tiles", d.Tiles(), 0)
	wantLoose(t, d)
	if d.Copy() != nil {
		t.Error("Copy of nil")
	}
}

func TestArgumentsAreNeitherKeptNorChanged(t *testing.T) {
	d := tile.New(2)
	long := append(full('a'), "behind it"...)
	b := long[:api.Tile]
	want(t, "Write", d.Write(0, b), api.OK)
	b[0] = 'z'
	want(t, "Write keeps no argument", letter(d, 0), 'a')
	want(t, "Write", d.Write(1, b), api.OK)
	if !bytes.Equal(long, append(append([]byte{'z'}, full('a')[1:]...), "behind it"...)) {
		t.Errorf("Write changed its argument: %q", long)
	}
	mask := []byte{1, 9, 9}
	d.Arm(0, mask[:1])
	mask[0] = 0
	want(t, "Write", d.Write(0, full('b')), api.ErrDown)
	d.Power()
	want(t, "Arm keeps no argument", letter(d, 0), 'b')
	d.Crash(mask[:1])
	if !bytes.Equal(mask, []byte{0, 9, 9}) {
		t.Errorf("a mask was changed: %v", mask)
	}
}

func TestResultsAreNew(t *testing.T) {
	d := written(t, "ab", "AB")
	x, _ := d.Read(0)
	x[0] = 'z'
	zero, _ := tile.New(1).Read(0)
	zero[0] = 'z'
	want(t, "Read", text(d), "AB")
	want(t, "Read of zeros", text(tile.New(1)), "0")
	l := d.Loose()
	l[0] = 7
	wantLoose(t, d, 0, 1)
	y, _ := d.Read(1)
	want(t, "Write", d.Write(1, full('x')), api.OK)
	if !bytes.Equal(y, full('B')) {
		t.Error("an answer of Read changed afterwards")
	}
}

// P1.2

func TestCrashKeepsWhatTheMaskNames(t *testing.T) {
	for _, c := range []struct {
		synced, loose string
		mask          []byte
		asked         string
	}{
		{"abc", "ABC", []byte{5}, "AbC"},
		{"abc", "ABC", nil, "abc"},
		{"abc", "ABC", []byte{}, "abc"},
		{"abc", "ABC", []byte{0}, "abc"},
		{"abc", "ABC", []byte{1}, "Abc"},
		{"abc", "ABC", []byte{2}, "aBc"},
		{"abc", "ABC", []byte{4}, "abC"},
		{"abc", "ABC", []byte{7}, "ABC"},
		{"abc", "ABC", []byte{255, 255, 255}, "ABC"},
		{"abc", "ABC", []byte{0xf8, 255}, "abc"},
		{"abc", "...", []byte{255}, "abc"},
		{"abcd", ".B.D", []byte{1}, "aBcd"}, // bits are those of the loose tiles, not of all
		{"abcd", ".B.D", []byte{2}, "abcD"},
		{"abcd", ".B.D", []byte{8}, "abcd"},
		{"abcdefghij", "ABCDEFGHIJ", []byte{0x81}, "AbcdefgHij"}, // a mask shorter than the loose tiles
		{"abcdefghij", "ABCDEFGHIJ", []byte{255}, "ABCDEFGHij"},
		{"abcdefghij", "ABCDEFGHIJ", []byte{0, 1}, "abcdefghIj"},
		{"abcdefghij", "ABCDEFGHIJ", []byte{0x80, 2}, "abcdefgHiJ"},
		{"", "", []byte{255}, ""},
	} {
		d := written(t, c.synced, c.loose)
		d.Crash(c.mask)
		want(t, "Dead", d.Dead(), true)
		wantLoose(t, d)
		d.Power()
		want(t, "Dead", d.Dead(), false)
		wantLoose(t, d)
		want(t, "contents", text(d), c.asked)
		d.Crash(nil) // what survived is on the disk
		d.Power()
		want(t, "contents after another crash", text(d), c.asked)
	}
}

func TestCrashBringsBackWhatWasSynced(t *testing.T) {
	d := tile.New(2)
	d.Write(0, full('a'))
	d.Sync()
	for _, c := range []byte("bcd") {
		d.Write(0, full(c))
		d.Write(1, full(c))
	}
	d.Crash(nil)
	d.Power()
	want(t, "contents", text(d), "a0")
	d.Write(0, full('e'))
	d.Sync()
	d.Write(1, full('f'))
	d.Crash(nil)
	d.Power()
	want(t, "stored before a Sync", text(d), "e0")
}

func TestPowerLeavesLivingDiskAsItIs(t *testing.T) {
	d := written(t, "abc", "A.C")
	d.Arm(1, []byte{1})
	d.Power()
	wantLoose(t, d, 0, 2)
	want(t, "contents", text(d), "AbC")
	want(t, "Write", d.Write(1, full('B')), api.OK)
	want(t, "it is armed still", d.Sync(), api.ErrDown)
	d.Power()
	want(t, "contents", text(d), "Abc")
}

func TestArmCutsTheOneWithItsNumber(t *testing.T) {
	for at, asked := range []string{"00", "00", "0a", "0a", "aa", "ab", "bb"} {
		d := written(t, "00", "")
		d.Arm(at, []byte{2}) // of two loose tiles the second one survives; of one, none
		for i, run := range []func() api.Errno{
			func() api.Errno { return d.Write(0, full('A')) },
			func() api.Errno { return d.Write(0, full('a')) },
			func() api.Errno { return d.Write(1, full('a')) },
			d.Sync,
			func() api.Errno { return d.Write(0, full('b')) },
			func() api.Errno { return d.Write(1, full('b')) },
		} {
			e := api.OK
			if i >= at {
				e = api.ErrDown
			}
			want(t, "operation", run(), e)
			want(t, "Dead", d.Dead(), i >= at)
		}
		d.Power()
		want(t, "contents", text(d), asked)
	}
}

func TestWriteThatIsCutIsExecuted(t *testing.T) {
	for mask, asked := range map[byte]string{0: "abc", 1: "Abc", 2: "aBc", 3: "ABc", 4: "abc"} {
		d := written(t, "abc", "A..")
		d.Arm(0, []byte{mask})
		want(t, "Write", d.Write(1, full('B')), api.ErrDown)
		want(t, "Dead", d.Dead(), true)
		wantLoose(t, d)
		d.Power()
		want(t, "contents", text(d), asked)
	}
}

func TestSyncThatIsCutIsNotExecuted(t *testing.T) {
	for mask, asked := range map[byte]string{0: "abc", 1: "Abc", 2: "abC", 3: "AbC"} {
		d := written(t, "abc", "A.C")
		d.Arm(0, []byte{mask})
		want(t, "Sync", d.Sync(), api.ErrDown)
		want(t, "Dead", d.Dead(), true)
		wantLoose(t, d)
		d.Power()
		want(t, "contents", text(d), asked)
	}
}

func TestOnlyOperationsThatSucceedAreCounted(t *testing.T) {
	d := written(t, "ab", "")
	d.Arm(1, nil)
	for range 3 {
		want(t, "Write", d.Write(2, full('x')), api.ErrBad)
		want(t, "Write", d.Write(0, nil), api.ErrBad)
		wantRead(t, d, 0, api.OK)
		wantRead(t, d, 2, api.ErrBad)
		wantLoose(t, d)
	}
	want(t, "number 0", d.Write(0, full('A')), api.OK)
	want(t, "before number 1", d.Write(9, full('x')), api.ErrBad)
	want(t, "before number 1", d.Write(1, full('x')[1:]), api.ErrBad)
	want(t, "Dead", d.Dead(), false)
	want(t, "number 1", d.Write(1, full('B')), api.ErrDown)
}

func TestArmOfDeadDiskWaitsForPower(t *testing.T) {
	d := written(t, "ab", "")
	d.Crash(nil)
	d.Arm(1, []byte{1})
	for range 3 {
		want(t, "Write", d.Write(0, full('x')), api.ErrDown)
		want(t, "Sync", d.Sync(), api.ErrDown)
	}
	d.Power()
	want(t, "number 0", d.Write(0, full('A')), api.OK)
	want(t, "number 1", d.Write(1, full('B')), api.ErrDown)
	d.Power()
	want(t, "contents", text(d), "Ab")
}

func TestArmReplacesTheOneBefore(t *testing.T) {
	d := written(t, "ab", "")
	d.Arm(0, []byte{1})
	d.Arm(2, []byte{2})
	want(t, "number 0", d.Write(0, full('A')), api.OK)
	d.Arm(1, []byte{3}) // counted from here on
	want(t, "number 0", d.Write(0, full('B')), api.OK)
	want(t, "number 1", d.Write(1, full('B')), api.ErrDown)
	d.Power()
	want(t, "contents", text(d), "BB")
	for _, at := range []int{-1, math.MinInt} {
		d.Arm(0, nil)
		d.Arm(at, nil)
		want(t, "Write", d.Write(0, full('C')), api.OK)
		want(t, "Sync", d.Sync(), api.OK)
	}
	d.Arm(math.MaxInt, nil)
	want(t, "Sync", d.Sync(), api.OK)
	want(t, "Dead", d.Dead(), false)
}

func TestCrashEndsWhatIsArmed(t *testing.T) {
	d := written(t, "ab", "")
	d.Arm(0, nil)
	d.Crash(nil)
	d.Power()
	want(t, "behind a crash", d.Write(0, full('A')), api.OK)
	d.Crash(nil)
	d.Arm(0, nil)
	d.Crash(nil) // of a dead disk
	want(t, "Dead", d.Dead(), true)
	d.Power()
	want(t, "behind a crash of a dead disk", d.Sync(), api.OK)
	d.Arm(0, nil)
	want(t, "the cut one", d.Sync(), api.ErrDown)
	d.Power()
	want(t, "behind the cut one", d.Sync(), api.OK)
	want(t, "contents", text(d), "ab")
}

func TestCopyIsEqualAndIndependent(t *testing.T) {
	d := written(t, "abc", "A..")
	d.Arm(2, []byte{6})
	want(t, "number 0", d.Write(1, full('B')), api.OK)
	c := d.Copy()
	want(t, "Tiles", c.Tiles(), 3)
	want(t, "contents", text(c), "ABc")
	wantLoose(t, c, 0, 1)

	want(t, "number 1 of the copy", c.Write(2, full('C')), api.OK)
	want(t, "number 2 of the copy", c.Sync(), api.ErrDown)
	want(t, "Dead", d.Dead(), false)
	want(t, "contents", text(d), "ABc")
	wantLoose(t, d, 0, 1)
	e := c.Copy()
	want(t, "Dead", e.Dead(), true)
	c.Power()
	want(t, "Dead", e.Dead(), true)
	want(t, "contents", text(c), "aBC")

	c = d.Copy()
	want(t, "number 1", d.Sync(), api.OK)
	d.Arm(-1, nil)
	want(t, "Write", d.Write(0, full('z')), api.OK)
	want(t, "contents", text(c), "ABc")
	wantLoose(t, c, 0, 1)
	want(t, "number 1 of the copy", c.Write(0, full('y')), api.OK)
	want(t, "number 2 of the copy", c.Write(2, full('C')), api.ErrDown)
	c.Power()
	want(t, "contents", text(c), "aBC")
	want(t, "contents", text(d), "zBc")
}
