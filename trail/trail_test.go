package trail_test

import (
	"bytes"
	"math"
	"slices"
	"testing"

	"whim/api"
	"whim/tile"
	"whim/trail"
)

const (
	first   = 2            // the tile in which the logs of these tests begin
	behind  = 2            // tiles behind such a log
	roomLen = api.Tile - 1 // bytes of the stream in a full tile
)

func want[T comparable](t *testing.T, what string, got, asked T) {
	t.Helper()
	if got != asked {
		t.Errorf("%s: %v, not %v", what, got, asked)
	}
}

// tileOf is a tile that tells a number of used bytes, and goes on with b and zeros.
func tileOf(used int, b []byte) []byte {
	c := make([]byte, api.Tile)
	c[0] = byte(used)
	copy(c[1:], b)
	return c
}

// tilesOf is the tiles that a stream requires.
func tilesOf(b []byte, tiles int) [][]byte {
	var l [][]byte
	for i := range tiles {
		part := b[min(len(b), i*roomLen):min(len(b), (i+1)*roomLen)]
		l = append(l, tileOf(len(part), part))
	}
	return l
}

// foreign is what the tiles of others have.
func foreign(at int) []byte { return bytes.Repeat([]byte{byte('a' + at%26)}, api.Tile) }

// laid is a disk that has these tiles in a log, and others around it; all is synced.
func laid(t *testing.T, l [][]byte) *tile.Disk {
	t.Helper()
	d := tile.New(first + len(l) + behind)
	for i := range d.Tiles() {
		c := foreign(i)
		if i >= first && i < first+len(l) {
			c = l[i-first]
		}
		want(t, "Write", d.Write(i, c), api.OK)
	}
	want(t, "Sync", d.Sync(), api.OK)
	return d
}

// empty is a disk that has a log of zeros.
func empty(t *testing.T, tiles int) *tile.Disk {
	t.Helper()
	return laid(t, tilesOf(nil, tiles))
}

// wantTiles holds all tiles of a disk against what a stream requires, and what others have.
func wantTiles(t *testing.T, what string, d *tile.Disk, b []byte) {
	t.Helper()
	l := tilesOf(b, d.Tiles()-first-behind)
	for i := range d.Tiles() {
		asked := foreign(i)
		if i >= first && i < first+len(l) {
			asked = l[i-first]
		}
		if c, e := d.Read(i); e != api.OK || !bytes.Equal(c, asked) {
			t.Errorf("%s: tile %d has %x, %d; asked for: %x", what, i, c, e, asked)
		}
	}
}

// open opens the log of a disk that has tiles of others around it.
func open(t *testing.T, d *tile.Disk, asked ...api.Entry) *trail.Trail {
	t.Helper()
	g, l, e := trail.Open(d, first, d.Tiles()-first-behind)
	if e != api.OK || g == nil || !same(l, asked) {
		t.Fatalf("Open: %q, %d; asked for: %q", names(l), e, names(asked))
	}
	wantState(t, "Open", g, len(asked), len(asked), (d.Tiles()-first-behind)*roomLen-len(stream(asked)))
	return g
}

func wantNoOpen(t *testing.T, what string, d *tile.Disk, first, tiles int, asked api.Errno) {
	t.Helper()
	if g, l, e := trail.Open(d, first, tiles); g != nil || l != nil || e != asked {
		t.Errorf("%s: Open of %d tiles from %d on: %v, %v, %d; asked for: %d", what, tiles, first, g, names(l), e, asked)
	}
}

func wantState(t *testing.T, what string, g *trail.Trail, count, stable, left int) {
	t.Helper()
	if g.Count() != count || g.Stable() != stable || g.Left() != left {
		t.Errorf("%s: Count %d, Stable %d, Left %d; asked for: %d, %d, %d", what, g.Count(), g.Stable(), g.Left(), count, stable, left)
	}
}

func wantAppend(t *testing.T, g *trail.Trail, e api.Entry, lsn int, asked api.Errno) {
	t.Helper()
	if n, err := g.Append(e); n != lsn || err != asked {
		t.Errorf("Append(%s): %d, %d; asked for: %d, %d", name(e), n, err, lsn, asked)
	}
}

// appendAll appends entries that have room.
func appendAll(t *testing.T, g *trail.Trail, l ...api.Entry) {
	t.Helper()
	for _, e := range l {
		wantAppend(t, g, e, g.Count()+1, api.OK)
	}
}

// wantRuns holds f against how many operations of the disk it may have, and sees that all of them are synced.
func wantRuns(t *testing.T, what string, d *tile.Disk, asked int, f func()) {
	t.Helper()
	const far = 1000
	d.Arm(far, nil)
	f()
	c := d.Copy()
	left := 0
	for left < far && c.Sync() == api.OK {
		left++
	}
	d.Arm(-1, nil)
	want(t, what+": operations", far-left, asked)
	want(t, what+": loose tiles", len(d.Loose()), 0)
}

// changed returns the places of the tiles of a log that have something else in b than in a.
func changed(a, b [][]byte) []int {
	var l []int
	for i := range a {
		if !bytes.Equal(a[i], b[i]) {
			l = append(l, i)
		}
	}
	return l
}

// runs is how many operations it takes to bring tiles from a to b: a write each, and a sync if there was any.
func runs(a, b [][]byte) int {
	if n := len(changed(a, b)); n > 0 {
		return n + 1
	}
	return 0
}

// P6.2

func TestOpenOfZeros(t *testing.T) {
	for tiles := range 5 {
		d := empty(t, tiles)
		wantRuns(t, "Open", d, 0, func() { open(t, d) })
		wantTiles(t, "Open", d, nil)
	}
}

func TestOpenReturnsTheEntries(t *testing.T) {
	l := many()
	for n := range len(l) + 1 {
		b := stream(l[:n])
		full := (len(b) + roomLen - 1) / roomLen
		for _, tiles := range []int{full, full + 1, full + 20} {
			d := laid(t, tilesOf(b, tiles))
			wantRuns(t, "Open", d, 0, func() { open(t, d, l[:n]...) })
			wantTiles(t, "Open", d, b)
		}
	}
}

func TestOpenRefusesTilesThatDoNotAllExist(t *testing.T) {
	d := empty(t, 3)
	d.Write(first, tileOf(64, nil)) // would be cleaned
	d.Sync()
	dead := d.Copy()
	dead.Crash(nil)
	all := d.Tiles()
	d.Arm(0, nil)
	for _, x := range [][2]int{
		{-1, 0}, {-1, 1}, {-1, all + 1}, {math.MinInt, 1}, {math.MinInt, math.MinInt},
		{0, -1}, {2, -1}, {all, -1}, {2, math.MinInt}, {-1, -1},
		{0, all + 1}, {1, all}, {all - 1, 2}, {all, 1}, {all + 1, 0}, {all + 1, -1}, {math.MaxInt, 0},
		{math.MaxInt, 1}, {1, math.MaxInt}, {math.MaxInt, math.MaxInt}, {1 << 62, 1 << 62}, {math.MaxInt, math.MinInt},
	} {
		wantNoOpen(t, "living", d, x[0], x[1], api.ErrBad)
		wantNoOpen(t, "dead", dead, x[0], x[1], api.ErrBad)
		wantNoOpen(t, "nil", nil, x[0], x[1], api.ErrBad)
	}
	wantNoOpen(t, "nil", nil, 0, 0, api.ErrBad)
	wantNoOpen(t, "nil", nil, 0, 1, api.ErrBad)
	want(t, "Dead", d.Dead(), false)
}

func TestOpenOfADeadDisk(t *testing.T) {
	d := laid(t, tilesOf(stream(many()[:2]), 4))
	d.Crash(nil)
	for _, x := range [][2]int{{first, 4}, {0, d.Tiles()}, {0, 0}, {d.Tiles(), 0}, {d.Tiles() - 1, 1}} {
		wantNoOpen(t, "dead", d, x[0], x[1], api.ErrDown)
	}
	d.Power()
	open(t, d, many()[:2]...)
}

func TestOpenOfNoTiles(t *testing.T) {
	for _, tiles := range []int{0, 3} {
		d := tile.New(tiles)
		d.Arm(0, nil)
		for at := range tiles + 1 {
			g, l, e := trail.Open(d, at, 0)
			if e != api.OK || g == nil || len(l) != 0 {
				t.Fatalf("Open: %v, %d", names(l), e)
			}
			wantAppend(t, g, end(1), 0, api.ErrFull)
			want(t, "Force", g.Force(), api.OK)
			wantState(t, "no tiles", g, 0, 0, 0)
		}
		want(t, "Dead", d.Dead(), false)
	}
}

func TestOpenOfAllTilesOfADisk(t *testing.T) {
	d := tile.New(api.MaxTiles)
	g, _, e := trail.Open(d, 0, api.MaxTiles)
	want(t, "Open", e, api.OK)
	var l []api.Entry
	for g.Left() >= 7277 {
		l = append(l, greatest())
		appendAll(t, g, greatest())
	}
	want(t, "Force", g.Force(), api.OK)
	if _, again, e := trail.Open(d, 0, api.MaxTiles); e != api.OK || !same(again, l) {
		t.Errorf("Open: %d entries, %d; asked for: %d", len(again), e, len(l))
	}
}

func TestOpenReadsUpToATileThatIsNotFull(t *testing.T) {
	l := []api.Entry{whole(0), whole(1), whole(2), whole(3)}
	b := stream(l)
	for i := range l {
		// Tile i has what it had a while ago: of its entry, only this much.
		for used := range roomLen {
			has := tilesOf(b, 6)
			has[i] = tileOf(used, has[i][1:1+used])
			d := laid(t, has)
			asked := runs(has, tilesOf(stream(l[:i]), 6))
			wantRuns(t, "Open", d, asked, func() { open(t, d, l[:i]...) })
			wantTiles(t, "Open", d, stream(l[:i]))
		}
	}
}

func TestOpenReadsOneTileThatIsNotFull(t *testing.T) {
	almost := end(2) // 25 bytes and 37 are one less than a full tile
	almost.Moves = make([]api.Move, 3)
	for _, l := range [][]api.Entry{{end(1)}, {end(1), end(2)}, {set(1)}, {long(1, 0)}, {end(1), almost}} {
		for _, ahead := range [][]api.Entry{nil, {whole(1)}, {whole(1), whole(2)}} {
			all := append(slices.Clone(ahead), l...)
			has := tilesOf(stream(all), 5)
			has[len(ahead)+1], has[len(ahead)+2] = tileOf(63, stream([]api.Entry{whole(3)})), tileOf(25, stream([]api.Entry{end(4)}))
			d := laid(t, has)
			wantRuns(t, "Open", d, 3, func() { open(t, d, all...) })
			wantTiles(t, "Open", d, stream(all))
		}
	}
}

func TestOpenEndsAtANumberOfUsedBytesThatIsTooGreat(t *testing.T) {
	l := []api.Entry{whole(0), whole(1), whole(2)}
	for i := range l {
		has := tilesOf(stream(l), 4)
		want(t, "used bytes", has[i][0], api.Tile-1)
		d := laid(t, has)
		open(t, d, l...)
		for used := api.Tile; used < 256; used++ {
			has[i][0] = byte(used)
			d := laid(t, has)
			wantRuns(t, "Open", d, 1+len(l)-i, func() { open(t, d, l[:i]...) })
			wantTiles(t, "Open", d, stream(l[:i]))
		}
	}
	// Nothing of such a tile is read, not even an entry that is whole without it.
	has := tilesOf(stream([]api.Entry{end(1)}), 2)
	has[0][0] = api.Tile
	d := laid(t, has)
	wantRuns(t, "Open", d, 2, func() { open(t, d) })
	wantTiles(t, "Open", d, nil)
}

func TestOpenReadsUsedBytesOnly(t *testing.T) {
	// The second entry lies behind the number of used bytes.
	has := tilesOf(stream([]api.Entry{end(1), end(2)}), 2)
	has[0][0] = 25
	d := laid(t, has)
	wantRuns(t, "Open", d, 2, func() { open(t, d, end(1)) })
	wantTiles(t, "Open", d, stream([]api.Entry{end(1)}))
}

func TestOpenCleansWhatIsBehindTheEnd(t *testing.T) {
	l := []api.Entry{end(1), whole(2)}
	b := stream(l) // 88 bytes: 63, 25
	junk := []byte{9, 9, 9}
	for _, c := range []struct {
		what string
		runs int
		lay  func(has [][]byte)
	}{
		{"nothing", 0, func(has [][]byte) {}},
		{"a byte in the last used tile", 2, func(has [][]byte) { has[1][63] = 1 }},
		{"a byte right behind the stream", 2, func(has [][]byte) { has[1][26] = 1 }},
		{"half a frame", 2, func(has [][]byte) { has[1] = tileOf(28, append(b[63:len(b):len(b)], junk...)) }},
		{"a tile behind", 2, func(has [][]byte) { has[2] = tileOf(3, junk) }},
		{"a tile behind that tells no used bytes", 2, func(has [][]byte) { has[2] = tileOf(0, junk) }},
		{"a tile behind that tells used bytes only", 2, func(has [][]byte) { has[4] = tileOf(63, nil) }},
		{"the last byte of the last tile", 2, func(has [][]byte) { has[4][63] = 255 }},
		{"two tiles behind", 3, func(has [][]byte) { has[2], has[4] = tileOf(200, junk), tileOf(25, stream(l[:1])) }},
		{"all tiles", 5, func(has [][]byte) {
			has[1][63], has[2], has[3], has[4] = 1, tileOf(63, junk), tileOf(63, junk), tileOf(63, junk)
		}},
	} {
		has := tilesOf(b, 5)
		c.lay(has)
		d := laid(t, has)
		wantRuns(t, c.what, d, c.runs, func() { open(t, d, l...) })
		wantTiles(t, c.what, d, b)
		wantRuns(t, c.what+", again", d, 0, func() { open(t, d, l...) })
	}
}

func TestOpenEndsAtWhatIsNoFrame(t *testing.T) {
	l := []api.Entry{end(1), set(2), whole(3)}
	bad := framed(make([]byte, 21))
	all := slices.Concat(stream(l), bad, stream(l))
	for cut := range len(all) + 1 {
		d := laid(t, tilesOf(all[:cut], 8))
		asked, n := trail.Scan(all[:cut])
		open(t, d, asked...)
		wantTiles(t, "Open", d, all[:n])
	}
	open(t, laid(t, tilesOf(all, 8)), l...)
}

// wantCut lets f be cut at each of its operations in turn: the writes come in ascending order, and then the sync.
func wantCut(t *testing.T, what string, was, will [][]byte, f func(d *tile.Disk) func() api.Errno) {
	t.Helper()
	l := changed(was, will)
	for k := range len(l) + 1 {
		d := laid(t, was)
		run := f(d)
		d.Arm(k, bytes.Repeat([]byte{255}, 8))
		want(t, what, run(), api.ErrDown)
		d.Power()
		for i := range was {
			asked := was[i]
			if at := slices.Index(l, i); at >= 0 && at <= k {
				asked = will[i]
			}
			if c, _ := d.Read(first + i); !bytes.Equal(c, asked) {
				t.Errorf("%s, cut at %d: tile %d has %x; asked for: %x", what, k, i, c, asked)
			}
		}
	}
	d := laid(t, was)
	run := f(d)
	d.Arm(len(l)+1, nil)
	want(t, what, run(), api.OK)
	want(t, what+": loose tiles", len(d.Loose()), 0)
}

func TestOpenThatIsCut(t *testing.T) {
	b := stream([]api.Entry{end(1), whole(2)})
	was := tilesOf(b, 5)
	was[1][40], was[3], was[4] = 7, tileOf(63, b), tileOf(0, b)
	wantCut(t, "Open", was, tilesOf(b, 5), func(d *tile.Disk) func() api.Errno {
		return func() api.Errno {
			g, l, e := trail.Open(d, first, 5)
			if e != api.OK && (g != nil || l != nil) {
				t.Errorf("Open: %v, %v, %d", g, names(l), e)
			}
			return e
		}
	})
}

// P6.3 Append

func TestAppendNumbersTheEntries(t *testing.T) {
	d := empty(t, 200)
	g := open(t, d)
	left := 200 * roomLen
	wantRuns(t, "Append", d, 0, func() {
		for i, e := range many() {
			wantAppend(t, g, e, i+1, api.OK)
			left -= len(stream([]api.Entry{e}))
			wantState(t, "Append", g, i+1, 0, left)
		}
	})
	wantTiles(t, "Append", d, nil)
	want(t, "Force", g.Force(), api.OK)
	g = open(t, d, many()...)
	wantAppend(t, g, end(1), len(many())+1, api.OK)
	wantState(t, "Append", g, len(many())+1, len(many()), left-25)
}

func TestAppendOfWhatIsNotValid(t *testing.T) {
	d := empty(t, 2)
	g := open(t, d)
	for _, e := range none() {
		wantAppend(t, g, e, 0, api.ErrBad)
	}
	wantState(t, "Append", g, 0, 0, 2*roomLen)
	appendAll(t, g, whole(1), whole(2))
	for _, e := range none() { // of a full log too
		wantAppend(t, g, e, 0, api.ErrBad)
	}
	wantState(t, "Append", g, 2, 0, 0)
	want(t, "Force", g.Force(), api.OK)
	open(t, d, whole(1), whole(2))
}

func TestAppendUpToTheEnd(t *testing.T) {
	// Of the 189 bytes that two full tiles leave, the third entry takes from 59 to 175.
	for n := range 30 {
		d := empty(t, 5)
		g := open(t, d)
		l := []api.Entry{whole(1), whole(2), long(3, n)}
		left := 3*roomLen - 59 - 4*n
		appendAll(t, g, l...)
		wantState(t, "Append", g, 3, 0, left)
		for i, e := range []api.Entry{whole(4), set(5), end(6)} {
			if size := []int{63, 51, 25}[i]; size > left {
				wantAppend(t, g, e, 0, api.ErrFull)
			} else {
				wantAppend(t, g, e, len(l)+1, api.OK)
				l, left = append(l, e), left-size
			}
			wantState(t, "Append", g, len(l), 0, left)
		}
		want(t, "Force", g.Force(), api.OK)
		wantTiles(t, "Force", d, stream(l))
		open(t, d, l...)
	}
}

func TestAppendOfTheLastEntryThatFits(t *testing.T) {
	d := empty(t, 3)
	g := open(t, d)
	appendAll(t, g, whole(1), whole(2))
	// 63 bytes are left: an entry of 67 does not fit, one of 63 does, and then none.
	wantAppend(t, g, long(3, 2), 0, api.ErrFull)
	wantAppend(t, g, greatest(), 0, api.ErrFull)
	wantState(t, "full", g, 2, 0, 63)
	wantAppend(t, g, whole(3), 3, api.OK)
	wantState(t, "the last one", g, 3, 0, 0)
	wantAppend(t, g, end(4), 0, api.ErrFull)
	wantState(t, "the one behind it", g, 3, 0, 0)
	want(t, "Force", g.Force(), api.OK)
	wantTiles(t, "Force", d, stream([]api.Entry{whole(1), whole(2), whole(3)}))
	g = open(t, d, whole(1), whole(2), whole(3))
	wantAppend(t, g, end(4), 0, api.ErrFull)

	// An entry of 25 bytes, where 25 are left, and 24.
	g = open(t, empty(t, 2))
	appendAll(t, g, set(1), end(2), end(3))
	wantState(t, "just enough", g, 3, 0, 25)
	wantAppend(t, g, end(4), 4, api.OK)
	wantState(t, "just enough", g, 4, 0, 0)
	g = open(t, empty(t, 2))
	appendAll(t, g, set(1), set(2))
	wantState(t, "one too few", g, 2, 0, 24)
	wantAppend(t, g, end(3), 0, api.ErrFull)
	wantState(t, "one too few", g, 2, 0, 24)
}

func TestAppendNeedsNoDisk(t *testing.T) {
	d := empty(t, 2)
	g := open(t, d)
	d.Crash(nil)
	wantAppend(t, g, end(1), 1, api.OK)
	wantAppend(t, g, api.Entry{}, 0, api.ErrBad)
	wantState(t, "of a dead disk", g, 1, 0, 101)
}

// P6.3 Force

func TestForceMakesAllStable(t *testing.T) {
	const tiles = 300
	d := empty(t, tiles)
	g := open(t, d)
	l := many()
	for i, e := range l {
		appendAll(t, g, e)
		was, will := tilesOf(stream(l[:i]), tiles), tilesOf(stream(l[:i+1]), tiles)
		wantRuns(t, "Force", d, runs(was, will), func() { want(t, "Force", g.Force(), api.OK) })
		wantState(t, "Force", g, i+1, i+1, tiles*roomLen-len(stream(l[:i+1])))
		wantTiles(t, "Force", d, stream(l[:i+1]))
		open(t, d.Copy(), l[:i+1]...)
	}
	g = open(t, d, l...)
	appendAll(t, g, l...)
	want(t, "Force of many", g.Force(), api.OK)
	open(t, d, append(slices.Clone(l), l...)...)
}

func TestForceOfNothingNew(t *testing.T) {
	d := empty(t, 4)
	g := open(t, d)
	wantRuns(t, "Force of no entries", d, 0, func() { want(t, "Force", g.Force(), api.OK) })
	appendAll(t, g, end(1), end(2))
	want(t, "Force", g.Force(), api.OK)
	// Not even tiles that somebody else has written.
	want(t, "Write", d.Write(first, foreign(0)), api.OK)
	want(t, "Write", d.Write(first+3, foreign(3)), api.OK)
	want(t, "Sync", d.Sync(), api.OK)
	for range 2 {
		wantRuns(t, "Force of nothing new", d, 0, func() { want(t, "Force", g.Force(), api.OK) })
	}
	g = open(t, d)
	wantRuns(t, "Force of nothing new", d, 0, func() { want(t, "Force", g.Force(), api.OK) })
}

func TestForceWritesEachTileThatHasSomethingElse(t *testing.T) {
	l := []api.Entry{whole(1), whole(2), whole(3), whole(4), whole(5), whole(6), end(7)}
	for at := range 9 {
		d := empty(t, 9)
		g := open(t, d)
		appendAll(t, g, l[:6]...)
		want(t, "Force", g.Force(), api.OK)
		// Somebody else writes a tile; tile 6 is to have the new entry.
		want(t, "Write", d.Write(first+at, foreign(0)), api.OK)
		want(t, "Sync", d.Sync(), api.OK)
		appendAll(t, g, l[6])
		asked := 3
		if at == 6 {
			asked = 2
		}
		wantRuns(t, "Force", d, asked, func() { want(t, "Force", g.Force(), api.OK) })
		wantTiles(t, "Force", d, stream(l))
	}
}

func TestForceOfTilesThatHaveItAlready(t *testing.T) {
	d := empty(t, 3)
	g := open(t, d)
	appendAll(t, g, set(1), set(2))
	// Both writes survive the sync that is cut.
	d.Arm(2, []byte{3})
	want(t, "Force", g.Force(), api.ErrDown)
	wantState(t, "Force that was cut", g, 2, 0, 3*roomLen-102)
	d.Power()
	wantTiles(t, "Force that was cut", d, stream([]api.Entry{set(1), set(2)}))
	wantRuns(t, "Force", d, 0, func() { want(t, "Force", g.Force(), api.OK) })
	wantState(t, "Force", g, 2, 2, 3*roomLen-102)
}

func TestForceOfADeadDisk(t *testing.T) {
	d := empty(t, 3)
	g := open(t, d)
	d.Crash(nil)
	want(t, "Force of no entries", g.Force(), api.OK)
	d.Power()
	appendAll(t, g, end(1))
	want(t, "Force", g.Force(), api.OK)
	d.Crash(nil)
	want(t, "Force of nothing new", g.Force(), api.OK)
	wantState(t, "Force of nothing new", g, 1, 1, 3*roomLen-25)
	appendAll(t, g, end(2))
	for range 2 {
		want(t, "Force of something new", g.Force(), api.ErrDown)
		wantState(t, "Force of something new", g, 2, 1, 3*roomLen-50)
	}
	d.Power()
	wantTiles(t, "a dead disk", d, stream([]api.Entry{end(1)}))
	want(t, "Force", g.Force(), api.OK)
	wantState(t, "Force", g, 2, 2, 3*roomLen-50)
	open(t, d, end(1), end(2))
}

func TestForceThatIsCut(t *testing.T) {
	old, all := []api.Entry{whole(1), end(2)}, []api.Entry{whole(1), end(2), whole(3), whole(4)}
	was := tilesOf(stream(old), 5)
	wantCut(t, "Force", was, tilesOf(stream(all), 5), func(d *tile.Disk) func() api.Errno {
		g := open(t, d, old...)
		appendAll(t, g, all[2:]...)
		return func() api.Errno {
			e := g.Force()
			if stable := g.Stable(); g.Count() != 4 || e != api.OK && stable != 2 || e == api.OK && stable != 4 {
				t.Errorf("Force: %d; Count %d, Stable %d", e, g.Count(), stable)
			}
			return e
		}
	})
}

func TestNilTrail(t *testing.T) {
	var g *trail.Trail
	for _, e := range append(many(), none()...) {
		wantAppend(t, g, e, 0, api.ErrBad)
	}
	want(t, "Force", g.Force(), api.ErrBad)
	wantState(t, "nil", g, 0, 0, 0)
}

func TestTrailThatWasNotOpened(t *testing.T) {
	var g trail.Trail
	wantAppend(t, &g, api.Entry{}, 0, api.ErrBad)
	wantAppend(t, &g, end(1), 0, api.ErrFull)
	want(t, "Force", g.Force(), api.OK)
	wantState(t, "zero", &g, 0, 0, 0)
}

// R3

func TestNothingIsSharedWithALog(t *testing.T) {
	d := empty(t, 400)
	g := open(t, d)
	for _, e := range many() {
		l := []api.Entry{e}
		appendAll(t, g, e)
		spoil(l)
	}
	want(t, "Force", g.Force(), api.OK)
	wantTiles(t, "Append keeps no argument", d, stream(many()))

	g, told, _ := trail.Open(d, first, 400)
	_, other, _ := trail.Open(d, first, 400)
	spoil(told)
	if !same(other, many()) {
		t.Errorf("an answer of another Open changed: %v", names(other))
	}
	appendAll(t, g, many()...)
	want(t, "Force", g.Force(), api.OK)
	wantTiles(t, "Open keeps no answer", d, stream(append(many(), many()...)))
	open(t, d, append(many(), many()...)...)
}

func TestAppendChangesNoArgument(t *testing.T) {
	g := open(t, empty(t, 3))
	e := whole(2)
	e.New = append(e.New, "behind it"...)[:api.CellSize]
	appendAll(t, g, e)
	if !same([]api.Entry{e}, []api.Entry{whole(2)}) || string(e.New[:35][26:]) != "behind it" {
		t.Errorf("Append changed its argument: %s", name(e))
	}
}
