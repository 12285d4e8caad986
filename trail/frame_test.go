package trail_test

import (
	"bytes"
	"fmt"
	"math"
	"slices"
	"testing"

	"whim/api"
	"whim/entry"
	"whim/trail"
)

// end is an entry whose frame has 25 bytes.
func end(txn int) api.Entry { return api.Entry{Kind: api.EntEnd, Txn: txn} }

// filled is n bytes that ascend from c.
func filled(n int, c byte) []byte {
	b := make([]byte, n)
	for i := range b {
		b[i] = c + byte(i)
	}
	return b
}

// set is an entry whose frame has 51 bytes.
func set(txn int) api.Entry {
	return api.Entry{Kind: api.EntSet, Txn: txn, Prev: 1, At: api.RID{Page: txn, Cell: 1}, New: filled(api.CellSize, byte(txn))}
}

// whole is an entry whose frame has as many bytes as a tile can have of the stream.
func whole(txn int) api.Entry {
	e := set(txn)
	e.Moves = []api.Move{{From: api.RID{Page: txn, Cell: 2}}, {To: api.RID{Page: 3, Cell: 255}}, {}}
	return e
}

// long is an entry whose frame has 59 + 4 n bytes, with all of its lists in use.
func long(txn, n int) api.Entry {
	e := api.Entry{Kind: api.EntMark, Txn: txn, Old: filled(api.CellSize, 230)}
	for i := range n {
		e.Moves = append(e.Moves, api.Move{From: api.RID{Page: i, Cell: txn}})
	}
	e.Lives = []api.Live{{Txn: txn, Last: 1 << 23, Next: 255, Commit: true}}
	return e
}

// greatest is an entry whose encoding is as long as one can be: 7273 bytes, all that may be 255 are.
func greatest() api.Entry {
	at := api.RID{Page: 255, Cell: 255}
	e := api.Entry{
		Kind: api.EntMark, Txn: 255, Unit: 1<<16 - 1, Half: 255, Prev: 1<<24 - 1, Next: 1<<24 - 1, At: at, To: at,
		Old: bytes.Repeat([]byte{255}, api.CellSize), New: bytes.Repeat([]byte{255}, api.CellSize),
	}
	for range 40 {
		e.Moves = append(e.Moves, api.Move{From: at, To: at})
		e.Lives = append(e.Lives, api.Live{Txn: 255, Last: 1<<24 - 1, Next: 1<<24 - 1, Commit: true})
		e.Dirty = append(e.Dirty, api.Dirty{Page: 255, Rec: 1<<24 - 1})
	}
	for range 40 {
		e.Open = append(e.Open, api.Open{Unit: 1<<16 - 1, Done: 255, Moves: slices.Clone(e.Moves)})
	}
	return e
}

// many is entries of several lengths.
func many() []api.Entry {
	return []api.Entry{end(3), set(1), whole(2), long(4, 0), long(5, 40), end(250), greatest(), set(6)}
}

// none is entries that are not valid.
func none() []api.Entry {
	return []api.Entry{
		{},
		{Kind: -1},
		{Kind: api.EntTurn + 1},
		{Kind: math.MaxInt},
		{Kind: api.EntEnd, Txn: -1},
		{Kind: api.EntEnd, Txn: 256},
		{Kind: api.EntUnit, Unit: 1 << 16},
		{Kind: api.EntSet, Prev: 1 << 24},
		{Kind: api.EntSet, At: api.RID{Page: 256}},
		{Kind: api.EntSet, Old: filled(api.CellSize-1, 1)},
		{Kind: api.EntSet, New: filled(api.CellSize+1, 1)},
		{Kind: api.EntUnit, Moves: make([]api.Move, 41)},
		{Kind: api.EntMark, Open: []api.Open{{Moves: make([]api.Move, 41)}}},
	}
}

// framed is any bytes in a frame: here a sum is worked out once, over all of them.
func framed(b []byte) []byte {
	x, y := 0, 0
	for i, c := range b {
		x += int(c)
		y += int(c) * (len(b) - i)
	}
	return slices.Concat([]byte{byte(len(b) / 256), byte(len(b) % 256)}, b, []byte{byte(x % 255), byte(y % 255)})
}

// stream is the frames of entries, one behind the other.
func stream(l []api.Entry) []byte {
	var b []byte
	for _, e := range l {
		b = append(b, framed(entry.Put(e))...)
	}
	return b
}

// name is an entry in few words; a message need not have all of its lists.
func name(e api.Entry) string {
	b := entry.Put(e)
	return fmt.Sprintf("kind %d, Txn %d, %d bytes", e.Kind, e.Txn, len(b))
}

func names(l []api.Entry) []string {
	var s []string
	for _, e := range l {
		s = append(s, name(e))
	}
	return s
}

func same(a, b []api.Entry) bool { return slices.EqualFunc(a, b, entry.Same) }

func wantScan(t *testing.T, what string, b []byte, asked []api.Entry, askedLen int) {
	t.Helper()
	if l, n := trail.Scan(b); n != askedLen || !same(l, asked) {
		t.Errorf("%s: Scan of %d bytes, %x: %q, %d; asked for: %q, %d", what, len(b), b[:min(len(b), 400)], names(l), n, names(asked), askedLen)
	}
}

// P6.1 Frame

func TestFrameOfAnEnd(t *testing.T) {
	asked := slices.Concat([]byte{0, 21, 5, 3}, make([]byte, 19), []byte{8, 165})
	if f := trail.Frame(end(3)); !bytes.Equal(f, asked) {
		t.Errorf("Frame: %v", f)
	}
}

func TestFrameIsLengthEncodingAndSums(t *testing.T) {
	for _, e := range many() {
		if f := trail.Frame(e); !bytes.Equal(f, framed(entry.Put(e))) {
			t.Errorf("Frame(%s): %x", name(e), f)
		}
	}
	// 7273 is more than a byte can have.
	if f := trail.Frame(greatest()); len(f) != 7277 || f[0] != 28 || f[1] != 105 {
		t.Errorf("the greatest frame: %d bytes, %v", len(f), f[:min(len(f), 2)])
	}
}

func TestSumsThatPassTheirBound(t *testing.T) {
	for txn, asked := range map[int]string{
		249: "\xfe\xf0", // 254 does not pass it; 5 + 20 times 254 does
		250: "\x00\x05", // 255 is 0
		251: "\x01\x19", // 256 is 1
		255: "\x05\x69",
		3:   "\x08\xa5",
		12:  "\x11\x5a", // 5 + 20 times 17
	} {
		f := trail.Frame(end(txn))
		if len(f) != 25 || string(f[23:]) != asked {
			t.Errorf("Frame of the Txn %d: %x; asked for: %x", txn, f, asked)
		}
	}
	// Two bytes that changed places have the same first sum.
	a, b := trail.Frame(api.Entry{Kind: api.EntEnd, Prev: 1}), trail.Frame(api.Entry{Kind: api.EntEnd, Prev: 256})
	if a[23] != b[23] || a[24] == b[24] {
		t.Errorf("Frame: %x, %x", a, b)
	}
}

func TestFrameOfWhatIsNotValid(t *testing.T) {
	for _, e := range none() {
		if f := trail.Frame(e); len(f) != 0 {
			t.Errorf("Frame(%s): %x", name(e), f)
		}
	}
}

// P6.1 Scan

func TestScanReturnsWhatWasFramed(t *testing.T) {
	l := many()
	for i := range len(l) + 1 {
		b := stream(l[:i])
		wantScan(t, "frames", b, l[:i], len(b))
	}
	var all []api.Entry
	for i := range 1000 {
		all = append(all, end(i%256))
	}
	wantScan(t, "a thousand", stream(all), all, 25000)
}

func TestScanOfNoBytes(t *testing.T) {
	for _, b := range [][]byte{nil, {}, filled(9, 1)[:0]} {
		wantScan(t, "no bytes", b, nil, 0)
	}
}

func TestScanEndsBehindTheLastFrame(t *testing.T) {
	l := []api.Entry{end(3), set(1)}
	b := stream(l)
	for n := range 200 {
		wantScan(t, "zeros behind", append(slices.Clone(b), make([]byte, n)...), l, 76)
		wantScan(t, "bytes behind", append(slices.Clone(b), bytes.Repeat([]byte{1}, n)...), l, 76)
		wantScan(t, "zeros alone", make([]byte, n), nil, 0)
		wantScan(t, "bytes alone", bytes.Repeat([]byte{byte(n)}, n), nil, 0)
	}
}

func TestScanOfWhatIsCutOff(t *testing.T) {
	l := []api.Entry{end(3), set(1), long(5, 40), end(250)}
	b := stream(l)
	ends := []int{0, 25, 76, 295, 320}
	if len(b) != 320 {
		t.Fatalf("%d bytes", len(b))
	}
	for n := range len(b) + 1 {
		i := 0
		for i+1 < len(ends) && ends[i+1] <= n {
			i++
		}
		wantScan(t, "cut off", b[:n], l[:i], ends[i])
		// No frame is found that begins later.
		if n > 0 && n < 25 {
			wantScan(t, "cut off in front", b[n:], nil, 0)
		}
	}
}

// between is a frame of any bytes with good ones around it.
func between(f []byte) []byte {
	return slices.Concat(stream([]api.Entry{end(3)}), f, stream([]api.Entry{end(4)}))
}

func TestScanSeesWrongSums(t *testing.T) {
	// The first sum of end(250) is 0, and the second one of end(33): 255 is no sum, though it is 0 modulo 255.
	for _, e := range []api.Entry{end(250), end(33), end(0), set(1), long(5, 40)} {
		f := framed(entry.Put(e))
		wantScan(t, "right sums", between(f), []api.Entry{end(3), e, end(4)}, len(f)+50)
		for at := len(f) - 2; at < len(f); at++ {
			for c := range 256 {
				if byte(c) == f[at] {
					continue
				}
				bad := slices.Clone(f)
				bad[at] = byte(c)
				wantScan(t, "a wrong sum", between(bad), []api.Entry{end(3)}, 25)
				wantScan(t, "a wrong sum at first", bad, nil, 0)
			}
		}
	}
	if f, g := framed(entry.Put(end(250))), framed(entry.Put(end(33))); f[23] != 0 || g[24] != 0 {
		t.Fatalf("sums that are not 0: %x, %x", f, g)
	}
}

func TestScanSeesEachBit(t *testing.T) {
	f := framed(entry.Put(whole(2)))
	for at := range f {
		for bit := range 8 {
			bad := slices.Clone(f)
			bad[at] ^= 1 << bit
			wantScan(t, "a bit", between(bad), []api.Entry{end(3)}, 25)
		}
	}
}

func TestScanSeesLengthsThatAreGreaterThanWhatIsLeft(t *testing.T) {
	f := framed(entry.Put(end(3)))
	for _, n := range []int{22, 23, 24, 25, 255, 256, 256 + 21, 1<<15 + 21, 1<<16 - 1} {
		bad := slices.Clone(f)
		bad[0], bad[1] = byte(n>>8), byte(n)
		wantScan(t, "a length", bad, nil, 0)
		wantScan(t, "a length behind a frame", append(slices.Clone(f), bad...), []api.Entry{end(3)}, 25)
		wantScan(t, "a length alone", bad[:2], nil, 0)
	}
	// The sums of no bytes are 0: what is missing is no sum.
	for _, b := range [][]byte{{0}, {0, 0}, {0, 0, 0}} {
		wantScan(t, "zeros", b, nil, 0)
	}
}

func TestScanSeesBytesThatAreNoEntry(t *testing.T) {
	good := entry.Put(set(1))
	kind, length, commit := slices.Clone(good), slices.Clone(good), entry.Put(long(4, 0))
	kind[0] = api.EntTurn + 1
	length[15] = 1
	commit[len(commit)-3] = 2
	for _, b := range [][]byte{nil, {5}, make([]byte, 21), kind, length, commit, good[:46], good[1:], append(slices.Clone(good), 0), make([]byte, 1<<16-1)} {
		if _, err := entry.Take(b); err != api.ErrForm {
			t.Fatalf("entry.Take(%x): %d", b, err)
		}
		wantScan(t, "no entry", framed(b), nil, 0)
		wantScan(t, "no entry between two", between(framed(b)), []api.Entry{end(3)}, 25)
	}
}

func TestScanOfAnyBytesEnds(t *testing.T) {
	seed := uint32(1)
	next := func() byte {
		seed = seed*1664525 + 1013904223
		return byte(seed >> 24)
	}
	good := stream(many()[:5])
	for range 20000 {
		b := slices.Clone(good)
		at := int(next()) % len(b)
		for range 1 + next()%3 {
			b[(at+int(next()%60))%len(b)] = next() % 60
		}
		l, n := trail.Scan(b)
		if n > len(b) || !bytes.Equal(stream(l), b[:n]) {
			t.Fatalf("Scan(%x): %q, %d", b, names(l), n)
		}
	}
}

// R3

func TestFrameAndScanShareNothing(t *testing.T) {
	e := whole(2)
	e.New = append(e.New, "behind it"...)[:api.CellSize]
	e.Moves = append(e.Moves, api.Move{From: api.RID{Page: 9}})[:3]
	f := trail.Frame(e)
	if !entry.Same(e, whole(2)) || string(e.New[:35][26:]) != "behind it" || e.Moves[:4][3].From.Page != 9 {
		t.Errorf("Frame changed its argument: %s", name(e))
	}
	clear(e.New)
	clear(e.Moves)
	if !bytes.Equal(f, framed(entry.Put(whole(2)))) {
		t.Errorf("Frame's answer changed with its argument: %x", f)
	}
	clear(f[:cap(f)])
	if f := trail.Frame(whole(2)); !bytes.Equal(f, framed(entry.Put(whole(2)))) {
		t.Errorf("a later Frame: %x", f)
	}

	l := many()
	all := append(stream(l), "behind it"...)
	keep := slices.Clone(all)
	n := len(all) - 9
	first, _ := trail.Scan(all[:n])
	second, _ := trail.Scan(all[:n])
	if !bytes.Equal(all, keep) {
		t.Error("Scan changed its argument")
	}
	clear(all)
	spoil(second)
	if !same(first, l) {
		t.Errorf("Scan's answer changed: %q", names(first))
	}
}

// spoil overwrites all that entries share with others.
func spoil(l []api.Entry) {
	for _, e := range l {
		clear(e.Old[:cap(e.Old)])
		clear(e.New[:cap(e.New)])
		clear(e.Moves[:cap(e.Moves)])
		clear(e.Lives[:cap(e.Lives)])
		clear(e.Dirty[:cap(e.Dirty)])
		for _, o := range e.Open {
			clear(o.Moves[:cap(o.Moves)])
		}
		clear(e.Open[:cap(e.Open)])
	}
	clear(l[:cap(l)])
}
