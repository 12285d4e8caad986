package hand_test

import (
	"slices"
	"strconv"
	"testing"

	"whim/api"
	"whim/hand"
)

// spot is a place as the chapter tells it.
type spot struct {
	full bool
	key  int
	val  string
	bit  bool
	pins int
}

// plain is a cache that is a list of places.
type plain struct {
	spots []spot
	hand  int
}

func (p *plain) at(k int) int {
	return slices.IndexFunc(p.spots, func(s spot) bool { return s.full && s.key == k })
}

func (p *plain) put(k int, v string) (out int, was string, had bool, e api.Errno) {
	if i := p.at(k); i >= 0 {
		p.spots[i].val, p.spots[i].bit = v, true
		return 0, "", false, api.OK
	}
	fresh := spot{full: true, key: k, val: v, bit: true}
	if i := slices.IndexFunc(p.spots, func(s spot) bool { return !s.full }); i >= 0 {
		p.spots[i] = fresh
		return 0, "", false, api.OK
	}
	before := plain{spots: slices.Clone(p.spots), hand: p.hand}
	for range 2*len(p.spots) + 1 {
		i := p.hand
		p.hand++
		if p.hand == len(p.spots) {
			p.hand = 0
		}
		switch s := p.spots[i]; {
		case s.pins == 0 && !s.bit:
			p.spots[i] = fresh
			return s.key, s.val, true, api.OK
		case s.pins == 0:
			p.spots[i].bit = false
		}
	}
	*p = before
	return 0, "", false, api.ErrFull
}

func (p *plain) get(k int) (string, bool) {
	i := p.at(k)
	if i < 0 {
		return "", false
	}
	p.spots[i].bit = true
	return p.spots[i].val, true
}

func (p *plain) pin(k int) bool {
	i := p.at(k)
	if i >= 0 {
		p.spots[i].pins++
	}
	return i >= 0
}

func (p *plain) unpin(k int) bool {
	i := p.at(k)
	if i < 0 || p.spots[i].pins == 0 {
		return false
	}
	p.spots[i].pins--
	return true
}

func (p *plain) drop(k int) bool {
	i := p.at(k)
	if i < 0 || p.spots[i].pins > 0 {
		return false
	}
	p.spots[i] = spot{}
	return true
}

func (p *plain) keys() []int {
	var l []int
	for _, s := range p.spots {
		if s.full {
			l = append(l, s.key)
		}
	}
	return l
}

// both is a cache and a plain one, to which the same is done.
type both struct {
	h    *hand.Hand[int, string]
	p    *plain
	puts int
	seen map[string]int // what the steps were answered, and how often
}

func (b *both) put(t *testing.T, k int) {
	t.Helper()
	b.puts++
	v := strconv.Itoa(b.puts)
	out, was, had, e := b.h.Put(k, v)
	askedOut, askedWas, askedHad, asked := b.p.put(k, v)
	if out != askedOut || was != askedWas || had != askedHad || e != asked {
		t.Fatalf("Put of %d: %d, %q, %t, %d; asked for: %d, %q, %t, %d", k, out, was, had, e, askedOut, askedWas, askedHad, asked)
	}
	b.seen["Put "+strconv.FormatBool(had)+" "+strconv.Itoa(int(e))]++
}

func (b *both) get(t *testing.T, k int) {
	t.Helper()
	v, ok := b.h.Get(k)
	if asked, is := b.p.get(k); v != asked || ok != is {
		t.Fatalf("Get of %d: %q, %t; asked for: %q, %t", k, v, ok, asked, is)
	}
	b.seen["Get "+strconv.FormatBool(ok)]++
}

func (b *both) same(t *testing.T, what string, k int, got, asked bool) {
	t.Helper()
	if got != asked {
		t.Fatalf("%s of %d: %t", what, k, got)
	}
	b.seen[what+" "+strconv.FormatBool(got)]++
}

// step does one of several things with a key. In stretches without pins those that are there go away again.
func (b *both) step(t *testing.T, kind, k int, pins bool) {
	t.Helper()
	switch {
	case kind < 7:
		b.put(t, k)
	case kind < 11:
		b.get(t, k)
	case kind < 12:
		b.same(t, "Drop", k, b.h.Drop(k), b.p.drop(k))
	case kind < 14 && pins:
		b.same(t, "Pin", k, b.h.Pin(k), b.p.pin(k))
	default:
		b.same(t, "Unpin", k, b.h.Unpin(k), b.p.unpin(k))
	}
	asked := b.p.keys()
	if got := b.h.Keys(); !slices.Equal(got, asked) || b.h.Len() != len(asked) {
		t.Fatalf("Keys: %v, %d; asked for: %v", got, b.h.Len(), asked)
	}
}

// TestLongRuns goes through many mixed steps, in an order that is always the same.
func TestLongRuns(t *testing.T) {
	seed := uint32(7)
	next := func(n int) int {
		seed = seed*1664525 + 1013904223
		return int(seed>>16) % n
	}
	seen := map[string]int{}
	for _, room := range []int{1, 2, 3, 4, 5, 8, 64} {
		for _, keys := range []int{room + 1, 2*room + 1} {
			for range 10 {
				b := &both{h: hand.New(room), p: &plain{spots: make([]spot, room)}, seen: seen}
				for i := range 1500 {
					b.step(t, next(18), next(keys), i/50%3 > 0)
				}
			}
		}
	}
	for _, s := range []string{"Put true 0", "Put false 0", "Put false 5", "Get true", "Get false",
		"Drop true", "Drop false", "Pin true", "Pin false", "Unpin true", "Unpin false"} {
		if seen[s] < 500 {
			t.Errorf("%s: %d times", s, seen[s])
		}
	}
}
