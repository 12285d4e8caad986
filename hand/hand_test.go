package hand_test

import (
	"maps"
	"math"
	"slices"
	"strconv"
	"strings"
	"testing"

	"whim/api"
	"whim/hand"
)

// The face, as the chapter lists it.
var (
	_ func(int) *hand.Hand[string, float64]                                                   = hand.Make[string, float64]
	_ func(int) *hand.Hand[int, string]                                                       = hand.New
	_ func(*hand.Hand[int, string], int, string) (out int, was string, had bool, e api.Errno) = (*hand.Hand[int, string]).Put
)

// played is a cache whose keys are letters, with what their values have to be. Each Put brings another value.
type played struct {
	h      *hand.Hand[int, string]
	values map[byte]string
	puts   int
}

// start plays steps on a new cache.
func start(t *testing.T, room int, steps string) *played {
	t.Helper()
	p := &played{h: hand.New(room), values: map[byte]string{}}
	p.play(t, steps)
	return p
}

// play does steps and holds what they answer against what stands behind them:
//
//	a     Put of a; nothing goes out
//	a>b   Put of a, which replaces b
//	a!    Put of a: ErrFull
//	?a    Get of a: it is present, with the value of its last Put
//	+a    Pin of a
//	-a    Unpin of a
//	/a    Drop of a
//	?a! and +a! and -a! and /a!   the same, which are answered false
//	=ab   Keys are a and b, and so many Len tells
//	=     the same of no keys
func (p *played) play(t *testing.T, steps string) {
	t.Helper()
	for i, s := range strings.Fields(steps) {
		at := "step " + strconv.Itoa(i) + ", " + s + ", of " + steps
		if s[0] == '=' {
			p.wantKeys(t, at, s[1:])
			continue
		}
		if !strings.ContainsRune("?+-/", rune(s[0])) {
			p.put(t, at, s)
			continue
		}
		k, asked := s[1], !strings.HasSuffix(s, "!")
		if got := p.ask(t, at, s[0], k); got != asked {
			t.Errorf("%s: %t", at, got)
		}
	}
}

func (p *played) ask(t *testing.T, at string, kind, k byte) bool {
	t.Helper()
	switch kind {
	case '+':
		return p.h.Pin(int(k))
	case '-':
		return p.h.Unpin(int(k))
	case '/':
		return p.h.Drop(int(k))
	}
	v, ok := p.h.Get(int(k))
	if ok && v != p.values[k] || !ok && v != "" {
		t.Errorf("%s: the value %q, %t", at, v, ok)
	}
	return ok
}

func (p *played) put(t *testing.T, at, s string) {
	t.Helper()
	p.puts++
	v := "put " + strconv.Itoa(p.puts)
	var out int
	var was string
	var had bool
	e := api.OK
	switch s[1:] {
	case "":
	case "!":
		e = api.ErrFull
	default:
		out, was, had = int(s[2]), p.values[s[2]], true
	}
	if gotOut, gotWas, gotHad, got := p.h.Put(int(s[0]), v); gotOut != out || gotWas != was || gotHad != had || got != e {
		t.Errorf("%s: %d, %q, %t, %d; asked for: %d, %q, %t, %d", at, gotOut, gotWas, gotHad, got, out, was, had, e)
	}
	if e == api.OK {
		p.values[s[0]] = v
	}
}

func (p *played) wantKeys(t *testing.T, at, asked string) {
	t.Helper()
	var got []byte
	for _, k := range p.h.Keys() {
		got = append(got, byte(k))
	}
	if string(got) != asked || p.h.Len() != len(asked) {
		t.Errorf("%s: Keys %q, Len %d", at, got, p.h.Len())
	}
}

func want[T comparable](t *testing.T, what string, got, asked T) {
	t.Helper()
	if got != asked {
		t.Errorf("%s: %v, not %v", what, got, asked)
	}
}

// wantPut is a Put beside which nothing goes out.
func wantPut[K comparable, V comparable](t *testing.T, h *hand.Hand[K, V], k K, v V, asked api.Errno) {
	t.Helper()
	var noKey K
	var noValue V
	if out, was, had, e := h.Put(k, v); out != noKey || was != noValue || had || e != asked {
		t.Errorf("Put of %v: %v, %v, %t, %d; asked for: nothing, and %d", k, out, was, had, e, asked)
	}
}

// wantOut is a Put that replaces a key and its value.
func wantOut[K comparable, V comparable](t *testing.T, h *hand.Hand[K, V], k K, v V, askedOut K, askedWas V) {
	t.Helper()
	if out, was, had, e := h.Put(k, v); out != askedOut || was != askedWas || !had || e != api.OK {
		t.Errorf("Put of %v: %v, %v, %t, %d; asked for: %v, %v", k, out, was, had, e, askedOut, askedWas)
	}
}

func wantGet[K comparable, V comparable](t *testing.T, h *hand.Hand[K, V], k K, asked V, is bool) {
	t.Helper()
	if v, ok := h.Get(k); v != asked || ok != is {
		t.Errorf("Get of %v: %v, %t; asked for: %v, %t", k, v, ok, asked, is)
	}
}

// P7.1 Put

func TestExamples(t *testing.T) {
	h := hand.New(3)
	for k := range 3 {
		wantPut(t, h, k, "v"+strconv.Itoa(k), api.OK)
	}
	wantOut(t, h, 3, "v3", 0, "v0")
	wantGet(t, h, 1, "v1", true)
	wantOut(t, h, 4, "v4", 2, "v2")
	if got := h.Keys(); !slices.Equal(got, []int{3, 1, 4}) {
		t.Errorf("Keys: %v", got)
	}
}

func TestPutTakesTheFirstEmptyPlace(t *testing.T) {
	start(t, 4, "= a =a b =ab c =abc d =abcd")
	// Places behind the hand, at it, and ahead of it, which stays where it is.
	start(t, 4, "a b c d e>a f>b =efcd /f /c =ed g =egd h =eghd i>d =eghi")
	start(t, 4, "a b c d e>a f>b =efcd /e =fcd g =gfcd h>c")
	start(t, 4, "a b c d e>a f>b =efcd /d =efc g =efcg h>c")
	start(t, 4, "a b c d e>a f>b =efcd /c =efd g =efgd h>d")
	start(t, 4, "a b c d /d /b /a /c = e f g h =efgh")
	start(t, 1, "a /a b =b")
	// The first one goes ahead of those that were empty for longer.
	start(t, 4, "a b /a c =cb d =cbd /b /c e =ed")
}

func TestPutOfAPresentKeyReplacesItsValue(t *testing.T) {
	start(t, 3, "a ?a a ?a a ?a =a b a =ab ?a ?b")
	// Also in a full cache, in which the hand stays where it is.
	start(t, 3, "a b c b =abc ?a ?b ?c d>a =dbc c =dbc ?c e>b f>c")
	start(t, 1, "a a a =a ?a")
}

func TestPutOfAPresentKeySetsItsBit(t *testing.T) {
	// Behind the first replacement all other bits are clear.
	start(t, 3, "a b c d>a b e>c")
	start(t, 3, "a b c d>a b c e>b f>c")
	// Without it the hand finds b first.
	start(t, 3, "a b c d>a e>b")
	// Pins don't hinder it.
	start(t, 3, "a b c d>a +b b ?b -b e>c")
}

func TestPutOfAPresentKeyWithPinsKeepsThem(t *testing.T) {
	start(t, 2, "a +a +a a ?a /a! -a /a! -a -a! /a")
	start(t, 2, "a b +a a c>b d>c =ad")
}

func TestHandClearsBitsAndGoesAllTheWayRound(t *testing.T) {
	// With all bits set it ends where it began.
	start(t, 1, "a b>a c>b d>c =d")
	start(t, 3, "a b c d>a e>b f>c g>d h>e i>f =ghi")
	start(t, 4, "a b c d e>a ?b ?c ?d f>b =efcd")
	// From any place.
	start(t, 4, "a b c d e>a f>b ?c ?d g>c =efgd ?d ?e ?f h>d =efgh")
	// It stops at the first place whose bit is clear, and has cleared those ahead of it only.
	start(t, 4, "a b c d e>a ?b f>c ?d g>b h>d i>e")
	// A new key has its bit set, in an empty place as in one that is replaced.
	start(t, 3, "a b c d>a /b e f>c")
	start(t, 3, "a b c d>a ?b ?c e>b")
}

func TestHandIsOneBehindThePlaceThatWasReplaced(t *testing.T) {
	start(t, 3, "a b c d>a =dbc e>b =dec f>c =def g>d =gef")
	start(t, 2, "a b c>a d>b e>c f>d =ef")
	// Not where it began: with b's bit set, c is replaced, and the hand is at d.
	start(t, 4, "a b c d e>a ?b f>c =ebfd g>d =ebfg h>b")
}

func TestEmptyPlacesDoNotMoveTheHand(t *testing.T) {
	start(t, 3, "a b c d>a /d e =ebc f>b =efc")
	start(t, 3, "a b c d>a /b e =dec f>c =def")
	start(t, 3, "a b c /b e =aec f>a =fec")
	start(t, 3, "a b c d>a ?b ?c /d e =ebc f>b")
	start(t, 3, "a b c d>a ?b ?c /c e =dbe f>b")
}

func TestHandPassesPlacesWithPins(t *testing.T) {
	start(t, 3, "a b c +a d>b e>c f>d =afe")
	start(t, 3, "a b c +a +c d>b e>d f>e =afc")
	start(t, 3, "a b c d>a +b e>c f>d =fbe")
	start(t, 2, "a b +b c>a d>c =db -b e>b")
}

func TestBitsOfPlacesWithPinsStayAsTheyAre(t *testing.T) {
	// Of d, its bit set, and b, its bit clear, which have pins, the hand passes both twice, and stands at d.
	passed := "a b c d>a +d +b e>c f>e =dbf -d -b"
	start(t, 3, passed+" g>b h>d")
	start(t, 3, passed+" ?b g>d h>b")
	// The same for d alone, whose bit was set.
	start(t, 3, "a b c d>a +d e>b f>c -d ?e g>d")
	start(t, 3, "a b c d>a +d e>b f>c g>e -d h>f i>d")
}

func TestPinAndUnpinLeaveTheBit(t *testing.T) {
	start(t, 3, "a b c d>a +b -b e>b")
	start(t, 3, "a b c d>a +d -d e>b f>c ?e g>d")
	start(t, 3, "a b c d>a ?b +b -b -b! e>c")
}

func TestAllPlacesWithPinsAreFull(t *testing.T) {
	start(t, 1, "a +a b! =a b! ?a ?b! -a b>a =b")
	start(t, 3, "a b c +a +b +c d! e! =abc ?a ?b ?c ?d! -b d>b =adc")
	start(t, 2, "a +a b +b +b -b c! =ab -b c>b")
	// An empty place has no pins.
	start(t, 3, "a b +a +b c =abc +c d! -c /c d =abd")
}

func TestFullChangesNothing(t *testing.T) {
	// All bits set, the hand at a.
	start(t, 3, "a b c +a +b +c d! -a -b -c d>a e>b f>c")
	// The bit of d is set, those of b and c are clear; the hand is at b.
	at := "a b c d>a +b +c +d e! =dbc -b -c -d"
	start(t, 3, at+" e>b f>c g>d")
	start(t, 3, at+" ?b e>c f>b")
	// The bits of d and e are set, that of b is clear; the hand is at d.
	at = "a b c d>a +d +b e>c +e f! f! =dbe -d -b -e"
	start(t, 3, at+" f>b g>d")
	start(t, 3, at+" +e f>b g>d -e h>f")
	// Neither is the value that was not put anywhere.
	start(t, 2, "a b +a +b c! c! ?c! +c! /c! =ab")
}

func TestPutOfAPresentKeyWhileAllHavePins(t *testing.T) {
	start(t, 2, "a b +a +b b =ab ?b a ?a c! =ab")
	start(t, 1, "a +a a ?a =a /a! -a /a")
	// Its bit is set.
	start(t, 3, "a b c d>a +b +c +d b -b -c -d e>c f>b")
	start(t, 3, "a b c d>a +b +c +d b c -b -c -d e>b f>c")
}

func TestZeroKeysAndValues(t *testing.T) {
	h := hand.New(2)
	wantGet(t, h, 0, "", false)
	want(t, "Pin", h.Pin(0), false)
	want(t, "Unpin", h.Unpin(0), false)
	want(t, "Drop", h.Drop(0), false)
	wantPut(t, h, 1, "", api.OK)
	wantGet(t, h, 0, "", false)
	wantPut(t, h, 0, "", api.OK)
	wantGet(t, h, 0, "", true)
	want(t, "Len", h.Len(), 2)
	if got := h.Keys(); !slices.Equal(got, []int{1, 0}) {
		t.Errorf("Keys: %v", got)
	}
	wantOut(t, h, math.MinInt, "x", 1, "")
	wantOut(t, h, math.MaxInt, "y", 0, "")
	wantGet(t, h, math.MinInt, "x", true)
	wantGet(t, h, math.MaxInt, "y", true)
	want(t, "Drop", h.Drop(0), false)
}

// P7.2 Get, Pin, Unpin, Drop, Keys, Len, Make, New

func TestGet(t *testing.T) {
	start(t, 3, "?a! a ?a ?a ?b! b ?a ?b c ?c d>a ?a! ?b ?c ?d")
	start(t, 2, "a b c>a ?a! a>b ?b! ?a /a ?a!")
}

func TestGetSetsTheBit(t *testing.T) {
	start(t, 3, "a b c d>a ?b e>c")
	start(t, 3, "a b c d>a ?b ?c e>b f>c")
	// Also of a key with pins.
	start(t, 3, "a b c d>a +b ?b -b e>c")
	// One that is not present sets none.
	start(t, 3, "a b c d>a ?a! ?x! e>b")
}

func TestPinAndUnpin(t *testing.T) {
	start(t, 2, "+a! -a! a -a! +a -a -a! +b! -b!")
	start(t, 2, "a b +a +a +a -a -a c>b d>c -a -a! e>a f>d =ef")
	start(t, 2, "a b +a -a -a! c>a +a! -a!")
	// An Unpin that was answered false does not count against the next Pin.
	start(t, 2, "a -a! -a! +a /a! b c>b d>c =ad")
}

func TestPinOften(t *testing.T) {
	p := start(t, 2, "a b")
	for range 70000 {
		want(t, "Pin", p.h.Pin('a'), true)
	}
	p.play(t, "c>b /a!")
	for range 70000 {
		want(t, "Unpin", p.h.Unpin('a'), true)
	}
	p.play(t, "-a! d>a")
}

func TestDrop(t *testing.T) {
	start(t, 3, "/a! a /b! /a /a! = ?a!")
	start(t, 3, "a b c /b =ac /b! /a =c /c = /c!")
	start(t, 3, "a +a /a! =a ?a +a -a /a! -a /a =")
	start(t, 2, "a b c>a /a! =cb")
}

func TestKeyThatIsPutAgainHasNothingOfBefore(t *testing.T) {
	start(t, 2, "a +a +a -a -a /a a -a! /a")
	start(t, 2, "a b +a -a /a a -a! c>a")
	// Nor has another key in its place.
	start(t, 2, "a b +a -a /a c =cb -c! d>c")
	// Its bit is set again: all are, where d's was clear ahead of its Drop.
	start(t, 3, "a b c d>a /b b e>c")
}

func TestKeysAreInTheOrderOfPlaces(t *testing.T) {
	start(t, 5, "= e =e b =eb d =ebd a =ebda c =ebdac /d =ebac f =ebfac g>e =gbfac ?f b =gbfac")
}

func TestKeysAreSharedWithNothing(t *testing.T) {
	p := start(t, 4, "a b c")
	l, m := p.h.Keys(), p.h.Keys()
	for i := range l {
		l[i] = 'x'
	}
	clear(l[:cap(l)])
	if !slices.Equal(m, []int{'a', 'b', 'c'}) {
		t.Errorf("two lists: %v", m)
	}
	p.play(t, "=abc ?a ?b ?c ?x! d e>a =ebcd")
	if !slices.Equal(m, []int{'a', 'b', 'c'}) {
		t.Errorf("a list of before: %v", m)
	}
}

func TestRoom(t *testing.T) {
	for room, asked := range map[int]int{
		math.MinInt: 1,
		-1:          1,
		0:           1,
		1:           1,
		2:           2,
		63:          63,
		64:          64,
		65:          64,
		128:         64,
		1<<32 + 2:   64,
		math.MaxInt: 64,
	} {
		wantRoom(t, hand.New(room), asked, strconv.Itoa)
		wantRoom(t, hand.Make[int, int](room), asked, func(k int) int { return k })
		wantRoom(t, hand.Make[int, api.RID](room), asked, func(k int) api.RID { return api.RID{Page: k} })
	}
}

// wantRoom fills an empty cache, and sees the hand go round it.
func wantRoom[V comparable](t *testing.T, h *hand.Hand[int, V], room int, value func(k int) V) {
	t.Helper()
	want(t, "Len", h.Len(), 0)
	want(t, "Keys", len(h.Keys()), 0)
	for k := range room {
		wantPut(t, h, k, value(k), api.OK)
		want(t, "Len", h.Len(), k+1)
	}
	for k := range 2*room + 1 {
		wantOut(t, h, k+room, value(k+room), k, value(k))
		want(t, "Len", h.Len(), room)
	}
	for k := range room {
		want(t, "Pin", h.Pin(2*room+1+k), true)
	}
	wantPut(t, h, -1, value(-1), api.ErrFull)
}

func TestCachesAreIndependent(t *testing.T) {
	p, q := start(t, 2, "a b"), start(t, 2, "a c")
	p.play(t, "+a d>b")
	q.play(t, "-a! d>a")
	p.play(t, "=ad")
	q.play(t, "=dc")
}

// TestAssignmentCopies: a cache is a value; whoever assigns one has a copy, and may go back to it.
func TestAssignmentCopies(t *testing.T) {
	p := start(t, 3, "a b c d>a ?b +d")
	before := *p.h
	values := maps.Clone(p.values)
	for _, steps := range []string{"e>c f>b =dfe", "?c e>b f>c", "-d /d e =ebc", "+b +c e! c -d e>d", "e>c f>b g>e =dfg /f"} {
		p.play(t, steps)
		*p.h, p.values = before, maps.Clone(values)
		p.play(t, "=dbc")
	}
	// Nor does the copy change with the cache it is of.
	c := before
	p.play(t, "e>c -d f>b /d")
	p.h, p.values = &c, values
	p.play(t, "=dbc ?d -d -d! e>c f>b")
}

// Other types

func TestStringsAndFloats(t *testing.T) {
	h := hand.Make[string, float64](2)
	wantPut(t, h, "", 1.5, api.OK)
	wantPut(t, h, "key", 2.5, api.OK)
	wantGet(t, h, "ke"+strings.Repeat("y", 1), 2.5, true)
	wantOut(t, h, "ab", 3.5, "", 1.5)
	wantGet(t, h, "", 0, false)
	wantPut(t, h, "ab", 4.5, api.OK)
	want(t, "Pin", h.Pin("key"), true)
	want(t, "Pin", h.Pin("ab"), true)
	wantPut(t, h, "", 1, api.ErrFull)
}

func TestStructsArraysAndPointers(t *testing.T) {
	s := hand.Make[api.RID, *api.Page](1)
	a, b := &api.Page{LSN: 1}, &api.Page{LSN: 2}
	wantPut(t, s, api.RID{Page: 1}, a, api.OK)
	wantGet(t, s, api.RID{Page: 1, Cell: 1}, nil, false)
	wantGet(t, s, api.RID{Page: 1}, a, true)
	wantOut(t, s, api.RID{Cell: 1}, b, api.RID{Page: 1}, a)
	r := hand.Make[[2]byte, struct{}](2)
	wantPut(t, r, [2]byte{1, 2}, struct{}{}, api.OK)
	want(t, "Drop", r.Drop([2]byte{2, 1}), false)
	want(t, "Drop", r.Drop([2]byte{1, 2}), true)
	p := hand.Make[*api.Page, int](2)
	wantPut(t, p, a, 1, api.OK)
	wantPut(t, p, nil, 2, api.OK)
	wantGet(t, p, &api.Page{LSN: 1}, 0, false)
	wantOut(t, p, b, 3, a, 1)
	wantOut(t, p, a, 4, nil, 2)
}

func TestValuesOfAnyType(t *testing.T) {
	h := hand.Make[bool, []string](1)
	h.Put(false, []string{"a", "b"})
	if out, was, had, e := h.Put(true, nil); out || !slices.Equal(was, []string{"a", "b"}) || !had || e != api.OK {
		t.Errorf("Put: %t, %q, %t, %d", out, was, had, e)
	}
	if v, ok := h.Get(true); v != nil || !ok {
		t.Errorf("Get: %q, %t", v, ok)
	}
	f := hand.Make[rune, func() int](1)
	f.Put('a', func() int { return 7 })
	if v, ok := f.Get('a'); !ok || v() != 7 {
		t.Errorf("Get of a function: %t", ok)
	}
}

func TestPutKeepsTheKeyThatIsPresent(t *testing.T) {
	h := hand.Make[float64, int](1)
	minus := math.Copysign(0, -1)
	wantPut(t, h, minus, 1, api.OK)
	wantPut(t, h, 0, 2, api.OK)
	if l := h.Keys(); len(l) != 1 || !math.Signbit(l[0]) {
		t.Errorf("Keys: %v", l)
	}
	if out, was, had, e := h.Put(1, 3); !math.Signbit(out) || was != 2 || !had || e != api.OK {
		t.Errorf("Put: %v, %d, %t, %d", out, was, had, e)
	}
}

func TestKeyThatIsNotEqualToItself(t *testing.T) {
	h := hand.Make[float64, int](2)
	wantPut(t, h, math.NaN(), 1, api.OK)
	wantGet(t, h, math.NaN(), 0, false)
	wantPut(t, h, math.NaN(), 2, api.OK)
	want(t, "Pin", h.Pin(math.NaN()), false)
	want(t, "Drop", h.Drop(math.NaN()), false)
	want(t, "Len", h.Len(), 2)
	for i := range 2 {
		if out, was, had, e := h.Put(float64(i), i); !math.IsNaN(out) || was != i+1 || !had || e != api.OK {
			t.Errorf("Put: %v, %d, %t, %d", out, was, had, e)
		}
	}
	wantOut(t, h, 2, 2, 0, 0)
}

// TestKeysThatCannotBeCompared: a comparison of them panics; the calls don't, and no key is equal to them.
func TestKeysThatCannotBeCompared(t *testing.T) {
	type pair struct {
		n int
		x any
	}
	h := hand.Make[any, int](4)
	none := []any{[]int{1}, map[int]int{}, pair{1, []int{}}}
	for i, k := range none {
		if out, was, had, e := h.Put(k, i); out != nil || was != 0 || had || e != api.OK {
			t.Errorf("Put of %v: %v, %d, %t, %d", k, out, was, had, e)
		}
	}
	wantPut(t, h, any(pair{1, 2}), 7, api.OK)
	for _, k := range none {
		if v, ok := h.Get(k); v != 0 || ok {
			t.Errorf("Get of %v: %d, %t", k, v, ok)
		}
		if h.Pin(k) || h.Unpin(k) || h.Drop(k) {
			t.Errorf("%v is present", k)
		}
	}
	wantGet(t, h, any(pair{1, 2}), 7, true)
	wantGet(t, h, any(pair{2, 2}), 0, false)
	wantGet(t, h, any(nil), 0, false)
	want(t, "Len", h.Len(), 4)
	for i := range none {
		if out, was, had, e := h.Put(none[i], 10+i); out == nil || was != i || !had || e != api.OK {
			t.Errorf("Put: %v, %d, %t, %d", out, was, had, e)
		}
	}
	want(t, "Drop", h.Drop(pair{1, 2}), true)
	want(t, "Len", h.Len(), 3)
}

// R1

func TestCacheWithoutPlaces(t *testing.T) {
	for _, h := range []*hand.Hand[int, string]{nil, {}} {
		wantPut(t, h, 0, "a", api.ErrFull)
		wantPut(t, h, 1, "a", api.ErrFull)
		wantGet(t, h, 0, "", false)
		if h.Pin(0) || h.Unpin(0) || h.Drop(0) || len(h.Keys()) != 0 || h.Len() != 0 {
			t.Errorf("a cache without places has something")
		}
	}
}
