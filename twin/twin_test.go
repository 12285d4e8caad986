package twin_test

import (
	"cmp"
	"slices"
	"strings"
	"testing"
	"unsafe"

	"whim/twin"
)

type parts struct{ sec, key string }

// joined is the joined string of parts, laid byte by byte.
func joined(p parts) string {
	var b []byte
	for i := range len(p.sec) {
		b = append(b, p.sec[i])
		if p.sec[i] == 0 {
			b = append(b, 255)
		}
	}
	b = append(b, 0, 1)
	return string(append(b, p.key...))
}

// words are all strings of at most so many of the bytes 0, 1, 2, 254 and 255.
func words(most int) []string {
	all := []string{""}
	for from := 0; most > 0; most-- {
		to := len(all)
		for _, w := range all[from:to] {
			for _, c := range []byte{0, 1, 2, 254, 255} {
				all = append(all, w+string([]byte{c}))
			}
		}
		from = to
	}
	return all
}

func wantSplit(t *testing.T, s string, p parts) {
	t.Helper()
	if sec, key, ok := twin.Split(s); sec != p.sec || key != p.key || !ok {
		t.Errorf("Split(%x): %x, %x, %t; asked for: %x, %x", s, sec, key, ok, p.sec, p.key)
	}
}

func wantNoSplit(t *testing.T, s string) {
	t.Helper()
	if sec, key, ok := twin.Split(s); sec != "" || key != "" || ok {
		t.Errorf("Split(%x): %x, %x, %t; asked for: false", s, sec, key, ok)
	}
}

// wantTwin holds that parts are joined as s, and that s is split into them.
func wantTwin(t *testing.T, p parts, s string) {
	t.Helper()
	if got := twin.Join(p.sec, p.key); got != s {
		t.Errorf("Join(%x, %x): %x; asked for: %x", p.sec, p.key, got, s)
	}
	wantSplit(t, s, p)
}

// wantFront holds that the front of a sec is s, which is also the joined string of the sec and an empty key.
func wantFront(t *testing.T, sec, s string) {
	t.Helper()
	if got := twin.Front(sec); got != s || got != twin.Join(sec, "") {
		t.Errorf("Front(%x): %x; asked for: %x; Join: %x", sec, got, s, twin.Join(sec, ""))
	}
}

// P10.1 Join, Split, Front

func TestJoinIsAsTheChapterSays(t *testing.T) {
	for _, c := range []struct {
		p     parts
		asked string
	}{
		{parts{"a", "b"}, "\x61\x00\x01\x62"},
		{parts{"sec", "key"}, "sec\x00\x01key"},
		{parts{"", ""}, "\x00\x01"},
		{parts{"", "b"}, "\x00\x01b"},
		{parts{"a", ""}, "a\x00\x01"},
		// A byte 0 of the sec is replaced, wherever it is.
		{parts{"\x00", "b"}, "\x00\xff\x00\x01b"},
		{parts{"\x00a", "b"}, "\x00\xffa\x00\x01b"},
		{parts{"a\x00c", "b"}, "a\x00\xffc\x00\x01b"},
		{parts{"a\x00", "b"}, "a\x00\xff\x00\x01b"},
		{parts{"\x00\x00\x00", ""}, "\x00\xff\x00\xff\x00\xff\x00\x01"},
		{parts{"\x00a\x00\x00c\x00", ""}, "\x00\xffa\x00\xff\x00\xffc\x00\xff\x00\x01"},
		// One of the key is not.
		{parts{"a", "\x00"}, "a\x00\x01\x00"},
		{parts{"a", "\x00b\x00\x00c\x00"}, "a\x00\x01\x00b\x00\x00c\x00"},
		{parts{"a", "\x00\xff"}, "a\x00\x01\x00\xff"},
		{parts{"", "\x00\x00\x00"}, "\x00\x01\x00\x00\x00"},
		// Nor are the bytes 1 and 255 of either.
		{parts{"\x01", "\x01"}, "\x01\x00\x01\x01"},
		{parts{"\xff", "\xff"}, "\xff\x00\x01\xff"},
		{parts{"\x01a\x01\x01c\x01", "\x01b\x01\x01d\x01"}, "\x01a\x01\x01c\x01\x00\x01\x01b\x01\x01d\x01"},
		{parts{"\xffa\xff\xffc\xff", "\xffb\xff\xffd\xff"}, "\xffa\xff\xffc\xff\x00\x01\xffb\xff\xffd\xff"},
		// Parts that have what the joined string has between and within them.
		{parts{"\x00\x01", "\x00\x01"}, "\x00\xff\x01\x00\x01\x00\x01"},
		{parts{"\x00\xff", "\x00\xff"}, "\x00\xff\xff\x00\x01\x00\xff"},
		{parts{"a\x00\x01", "\x00\x01\x00\x01"}, "a\x00\xff\x01\x00\x01\x00\x01\x00\x01"},
		{parts{"a\x00\x01b", "c\x00\x01d"}, "a\x00\xff\x01b\x00\x01c\x00\x01d"},
		{parts{"a\x00\xff\x00\x01", "b"}, "a\x00\xff\xff\x00\xff\x01\x00\x01b"},
		// Bytes are replaced, not runes, and none that are no UTF-8.
		{parts{"é\x00é", "é"}, "é\x00\xffé\x00\x01é"},
		{parts{"\xc3\x00\xa9", "\xc3"}, "\xc3\x00\xff\xa9\x00\x01\xc3"},
	} {
		wantTwin(t, c.p, c.asked)
		if c.p.key == "" {
			wantFront(t, c.p.sec, c.asked)
		}
	}
}

func TestSplitOfWhatIsNotJoined(t *testing.T) {
	for _, s := range []string{
		"",
		// Without a byte 0.
		"a", "ab", "\x01", "\xff", "\x01\xff\x01", "\xff\x01",
		// With one at the end.
		"\x00", "a\x00", "a\x00\xff\x00", "\x00\x00", "a\x01\x00",
		// With no end of the sec.
		"\x00\xff", "a\x00\xff", "\x00\xff\x01", "\x00\xffab", "a\x00\xffb\x00\xffc", "\x00\xff\x00\xff",
		// With a byte 0 of the sec that is followed by something else, with and without an end behind it.
		"\x00\x00\x01", "\x00\x00\x01a", "\x00\x00\xff\x00\x01", "a\x00\x00\x01b", "\x00\x00\x00\x01",
		"\x00\x02\x00\x01", "a\x00\x02b", "a\x00\x02b\x00\x01", "a\x00b\x00\x01c", "a\x00\xfe\x00\x01",
		"\x00\xff\x00\x00\x01", "\x00\xffa\x00b\x00\x01", "\x00a\x00\xff\x00\x01",
	} {
		wantNoSplit(t, s)
	}
}

func TestSplitEndsTheSecAtTheFirstEnd(t *testing.T) {
	wantSplit(t, "\x00\x01", parts{"", ""})
	wantSplit(t, "\x00\x01\x00\x01", parts{"", "\x00\x01"})
	wantSplit(t, "\x00\x01\x00\x01\x00\x01", parts{"", "\x00\x01\x00\x01"})
	wantSplit(t, "a\x00\x01b\x00\x01c", parts{"a", "b\x00\x01c"})
	// Nothing in a key is looked at.
	wantSplit(t, "a\x00\x01\x00", parts{"a", "\x00"})
	wantSplit(t, "a\x00\x01\x00\x00\x01", parts{"a", "\x00\x00\x01"})
	wantSplit(t, "a\x00\x01b\x00\x02", parts{"a", "b\x00\x02"})
	wantSplit(t, "\x00\xff\x00\x01\x00\x00", parts{"\x00", "\x00\x00"})
}

func TestBytesOfAnyValue(t *testing.T) {
	for c := range 256 {
		one := string([]byte{byte(c)})
		for _, w := range []string{one, one + "a", "a" + one, "a" + one + "b", one + one, one + one + one, one + "a" + one} {
			for _, p := range []parts{{w, ""}, {"", w}, {w, "k"}, {"s", w}, {w, w}} {
				wantTwin(t, p, joined(p))
			}
			wantFront(t, w, joined(parts{sec: w}))
		}
		// The byte behind a byte 0, of which only 1 ends a sec, and only 255 goes on with it.
		s := "a\x00" + one
		switch c {
		case 1:
			wantSplit(t, s, parts{"a", ""})
			wantSplit(t, s+"b\x00\x01c", parts{"a", "b\x00\x01c"})
		case 255:
			wantNoSplit(t, s)
			wantSplit(t, s+"b\x00\x01c", parts{"a\x00b", "c"})
		default:
			wantNoSplit(t, s)
			wantNoSplit(t, s+"b\x00\x01c")
		}
	}
}

func TestSplitOfEveryJoin(t *testing.T) {
	ws := words(3)
	for _, sec := range ws {
		wantFront(t, sec, joined(parts{sec: sec}))
		for _, key := range ws {
			p := parts{sec, key}
			wantTwin(t, p, joined(p))
		}
	}
}

func TestJoinOfEverySplit(t *testing.T) {
	const most = 7
	from := map[string]parts{}
	for _, sec := range words(most - 2) {
		for _, key := range words(most - 2 - len(sec)) {
			p := parts{sec, key}
			from[joined(p)] = p
		}
	}
	for _, s := range words(most) {
		p, is := from[s]
		if !is {
			wantNoSplit(t, s)
			continue
		}
		wantSplit(t, s, p)
		sec, key, _ := twin.Split(s)
		if got := twin.Join(sec, key); got != s {
			t.Errorf("Join of what Split(%x) gives: %x", s, got)
		}
	}
}

func TestLongParts(t *testing.T) {
	const n = 1 << 16
	for _, one := range []string{"\x00", "\x01", "\xff", "a", "\x00\x01", "\x00\xff", "a\x00", "\x01\x00"} {
		long := strings.Repeat(one, n)
		for _, p := range []parts{{long, ""}, {"", long}, {long, long}} {
			s := twin.Join(p.sec, p.key)
			// What is so long isn't told.
			if s != joined(p) {
				t.Errorf("Join of parts with %d and %d bytes, of %x", len(p.sec), len(p.key), one)
			}
			if sec, key, ok := twin.Split(s); sec != p.sec || key != p.key || !ok {
				t.Errorf("Split of what is joined of parts with %d and %d bytes, of %x", len(p.sec), len(p.key), one)
			}
		}
	}
	for _, s := range []string{strings.Repeat("\x00", n) + "\x01", strings.Repeat("\x00\xff", n), strings.Repeat("a", n), strings.Repeat("\x00\xff", n) + "\x00\x02\x00\x01"} {
		if sec, key, ok := twin.Split(s); sec != "" || key != "" || ok {
			t.Errorf("Split of %d bytes: %d and %d bytes, %t", len(s), len(sec), len(key), ok)
		}
	}
}

// What follows

func TestOrderIsThatOfTheParts(t *testing.T) {
	var all []parts
	ws := words(3)
	for _, sec := range ws {
		for _, key := range ws {
			all = append(all, parts{sec, key})
		}
	}
	slices.SortFunc(all, func(a, b parts) int {
		return cmp.Or(strings.Compare(a.sec, b.sec), strings.Compare(a.key, b.key))
	})
	for i, p := range all[1:] {
		if q := all[i]; twin.Join(q.sec, q.key) >= twin.Join(p.sec, p.key) {
			t.Errorf("Join(%x, %x) is not below Join(%x, %x)", q.sec, q.key, p.sec, p.key)
		}
	}
}

func TestFrontIsAheadOfItsJoinsAndBehindThoseOfLesserSecs(t *testing.T) {
	ws := words(3)
	slices.Sort(ws)
	most := ws[len(ws)-1]
	for i, sec := range ws {
		f := twin.Front(sec)
		for _, key := range ws {
			if s := twin.Join(sec, key); !strings.HasPrefix(s, f) || s < f {
				t.Errorf("Join(%x, %x) does not begin with Front", sec, key)
			}
		}
		if i > 0 && twin.Join(ws[i-1], most) >= f {
			t.Errorf("Front(%x) is not above the joined strings of %x", sec, ws[i-1])
		}
	}
}

// R3

// share tells whether two strings have memory in common.
func share(a, b string) bool {
	if len(a) == 0 || len(b) == 0 {
		return false
	}
	at, to := uintptr(unsafe.Pointer(unsafe.StringData(a))), uintptr(unsafe.Pointer(unsafe.StringData(b)))
	return at < to+uintptr(len(b)) && to < at+uintptr(len(a))
}

func TestResultsShareNoMemoryWithArguments(t *testing.T) {
	for _, p := range []parts{{"", ""}, {"sec", "key"}, {"sec", ""}, {"", "key"}, {"s\x00c", "k\x00y"}, {"\x00\x00", "key"}} {
		p = parts{strings.Clone(p.sec), strings.Clone(p.key)}
		s := twin.Join(p.sec, p.key)
		f := twin.Front(p.sec)
		if share(s, p.sec) || share(s, p.key) || share(f, p.sec) {
			t.Errorf("Join(%x, %x), Front(%x): they share memory", p.sec, p.key, p.sec)
		}
		sec, key, _ := twin.Split(s)
		if share(sec, s) || share(key, s) || share(sec, key) {
			t.Errorf("Split(%x): its results share memory with it, or with each other", s)
		}
	}
}
