package look_test

import (
	"maps"
	"reflect"
	"slices"
	"testing"

	"whim/api"
	"whim/look"
	"whim/redo"
)

// plain is what is known, kept without any order.
type plain struct {
	lives       map[int]api.Live
	dirty       map[int]int // from pages to their Recs
	open        []api.Open
	units, half int
}

func plainOf(s api.Seen) *plain {
	p := &plain{lives: map[int]api.Live{}, dirty: map[int]int{}, units: s.Units, half: s.Half}
	for _, l := range s.Lives {
		p.lives[l.Txn] = l
	}
	for _, d := range s.Dirty {
		p.dirty[d.Page] = d.Rec
	}
	p.open = append(p.open, s.Open...)
	return p
}

func (p *plain) seen() api.Seen {
	s := api.Seen{Open: p.open, Units: p.units, Half: p.half}
	for _, txn := range slices.Sorted(maps.Keys(p.lives)) {
		s.Lives = append(s.Lives, p.lives[txn])
	}
	for _, n := range slices.Sorted(maps.Keys(p.dirty)) {
		s.Dirty = append(s.Dirty, api.Dirty{Page: n, Rec: p.dirty[n]})
	}
	return s
}

// plainPages are the pages that an entry touches, written out.
func plainPages(e api.Entry) []int {
	var l []int
	switch e.Kind {
	case 1, 2:
		l = []int{e.At.Page}
	case 7:
		l = []int{e.At.Page, e.To.Page}
	case 8:
		for _, m := range e.Moves {
			l = append(l, m.From.Page)
		}
	}
	return slices.DeleteFunc(l, func(n int) bool { return n < 0 || n >= 32 })
}

// on is the account of one more entry.
func (p *plain) on(e api.Entry, lsn int) {
	if e.Kind >= 1 && e.Kind <= 4 {
		l := p.lives[e.Txn]
		next := map[int]int{1: lsn, 2: e.Next, 3: l.Next, 4: l.Next}
		p.lives[e.Txn] = api.Live{Txn: e.Txn, Last: lsn, Next: next[e.Kind], Commit: l.Commit || e.Kind == 3}
	}
	if e.Kind == 5 {
		delete(p.lives, e.Txn)
	}
	if e.Kind == 6 {
		p.open = append(p.open, api.Open{Unit: e.Unit, Moves: e.Moves})
		p.units = max(p.units, e.Unit)
	}
	if e.Kind == 7 || e.Kind == 8 {
		p.firstOpen(e)
	}
	if e.Kind == 10 {
		p.half = e.Half
	}
	if e.Kind == 9 {
		*p = *plainOf(api.Seen{Lives: e.Lives, Dirty: e.Dirty, Open: e.Open, Units: e.Unit, Half: e.Half})
	}
	for _, n := range plainPages(e) {
		if _, is := p.dirty[n]; !is {
			p.dirty[n] = lsn
		}
	}
}

// firstOpen is the account of an EntMove and an EntDone of a unit that may be open.
func (p *plain) firstOpen(e api.Entry) {
	var l []api.Open
	found := false
	for _, o := range p.open {
		if !found && o.Unit == e.Unit {
			found = true
			o.Done++
			if e.Kind == 8 {
				continue
			}
		}
		l = append(l, o)
	}
	p.open = l
}

// plainOn is what On is asked for.
func plainOn(s api.Seen, e api.Entry, lsn int) api.Seen {
	p := plainOf(s)
	p.on(e, lsn)
	return p.seen()
}

// plainAfter is the account of entries the first of which has the number first.
func plainAfter(l []api.Entry, first int) api.Seen {
	p := plainOf(api.Seen{})
	for i, e := range l {
		p.on(e, first+i)
	}
	return p.seen()
}

// plainLate is what Late is asked for.
func plainLate(l []api.Entry) (api.Seen, int) {
	from := 0
	for i, e := range l {
		if e.Kind == 9 {
			from = i + 1
		}
	}
	if from == 0 {
		return plainAfter(l, 1), 0
	}
	return plainAfter(l[from-1:], from), from
}

// wantSeen holds what a look at a log is asked for: twice, and whatever is done to what is handed in and out.
func wantSeen(t *testing.T, name string, l []api.Entry, do func(l []api.Entry) (api.Seen, int), asked api.Seen, from int) {
	t.Helper()
	asked, l = roomySeen(asked), roomyLog(l) // asked may have lists of l.
	l0 := wholeLog(l)
	check := func(when string, s api.Seen, n int) {
		t.Helper()
		if !equal(s, asked) || n != from {
			t.Errorf("%s(%v)%s: %v, %d; asked for: %v, %d", name, l0[:len(l)], when, s, n, asked, from)
		}
	}
	stays := func(when string) {
		t.Helper()
		if !reflect.DeepEqual(wholeLog(l), l0) {
			t.Errorf("%s(%v)%s: handed in is %v now", name, l0, when, wholeLog(l))
		}
	}
	s, n := do(l)
	check("", s, n)
	stays("")
	s2, n2 := do(l)
	spoil(s)
	stays(", behind changes of the answer")
	check(", behind changes of another answer", s2, n2)
	for _, e := range l {
		spoilEntry(e)
	}
	check(", behind changes of what was handed in", s2, n2)
}

func all(l []api.Entry) (api.Seen, int) { return look.All(l), 0 }

func wantAll(t *testing.T, l []api.Entry, asked api.Seen) {
	t.Helper()
	wantSeen(t, "All", l, all, asked, 0)
}

func wantLate(t *testing.T, l []api.Entry, asked api.Seen, from int) {
	t.Helper()
	wantSeen(t, "Late", l, look.Late, asked, from)
}

// P18.2

func TestNoEntries(t *testing.T) {
	for _, l := range [][]api.Entry{nil, {}, {{}}, {{Kind: 11}, {Kind: -1}}, {{Kind: api.EntEnd, Txn: 1}, {Kind: api.EntDone}, {Kind: api.EntMove, At: at, To: at}}} {
		wantAll(t, l, api.Seen{})
		wantLate(t, l, api.Seen{}, 0)
	}
}

func TestAllGivesTheNumbersFromOneOn(t *testing.T) {
	var l []api.Entry
	var asked api.Seen
	for i := range 32 {
		l = append(l, api.Entry{Kind: api.EntSet, Txn: i + 3, At: rid(i, 0)})
		asked.Lives = append(asked.Lives, api.Live{Txn: i + 3, Last: i + 1, Next: i + 1})
		asked.Dirty = append(asked.Dirty, api.Dirty{Page: i, Rec: i + 1})
		wantAll(t, l, asked)
		wantLate(t, l, asked, 0)
	}
}

// marked are a mark, and entries as they stand ahead of and behind one.
func marked() (mark api.Entry, l []api.Entry) {
	mark = api.Entry{Kind: api.EntMark, Unit: 3, Half: 1, Lives: []api.Live{{Txn: 2, Last: 1, Next: 1}}, Dirty: []api.Dirty{{Page: 8, Rec: 1}}, Open: []api.Open{{Unit: 2, Moves: moves(1), Done: 1}}}
	l = []api.Entry{
		{Kind: api.EntSet, Txn: 1, At: rid(7, 0)},
		{Kind: api.EntUnit, Unit: 9, Moves: moves(4)},
		{Kind: api.EntMove, Unit: 2, At: rid(1, 0), To: rid(2, 0)},
		{Kind: api.EntTurn, Half: 4},
		{Kind: api.EntCommit, Txn: 2},
	}
	return mark, l
}

func TestLateWithAMarkAnywhere(t *testing.T) {
	mark, l := marked()
	for i := range len(l) + 1 {
		log := slices.Insert(slices.Clone(l), i, mark)
		wantLate(t, log, plainAfter(log[i:], i+1), i+1)
		wantAll(t, log, plainAfter(log, 1))
		for k := range i + 1 { // The last one counts.
			two := slices.Insert(slices.Clone(log), k, mark, api.Entry{Kind: api.EntMark, Half: 7})
			wantLate(t, two, plainAfter(log[i:], i+3), i+3)
			wantAll(t, two, plainAfter(two, 1))
		}
	}
}

// At the front, at the end, and alone: what is known is what the mark says, and what follows it.
func TestLateWrittenOut(t *testing.T) {
	mark, l := marked()
	alone := api.Seen{Lives: mark.Lives, Dirty: mark.Dirty, Open: mark.Open, Units: 3, Half: 1}
	wantLate(t, []api.Entry{mark}, alone, 1)
	wantLate(t, []api.Entry{mark, mark, mark}, alone, 3)
	wantLate(t, append(l, mark), alone, 6)
	wantLate(t, append([]api.Entry{mark}, l...), api.Seen{
		Lives: []api.Live{{Txn: 1, Last: 2, Next: 2}, {Txn: 2, Last: 6, Next: 1, Commit: true}},
		Dirty: []api.Dirty{{Page: 1, Rec: 4}, {Page: 2, Rec: 4}, {Page: 7, Rec: 2}, {Page: 8, Rec: 1}},
		Open:  []api.Open{{Unit: 2, Moves: moves(1), Done: 2}, {Unit: 9, Moves: moves(4)}},
		Units: 9,
		Half:  4,
	}, 1)
	wantLate(t, l, api.Seen{
		Lives: []api.Live{{Txn: 1, Last: 1, Next: 1}, {Txn: 2, Last: 5, Commit: true}},
		Dirty: []api.Dirty{{Page: 1, Rec: 3}, {Page: 2, Rec: 3}, {Page: 7, Rec: 1}},
		Open:  []api.Open{{Unit: 9, Moves: moves(4)}},
		Units: 9,
		Half:  4,
	}, 0)
}

// Late looks at nothing ahead of the last mark, not even if that mark says that nothing is known.
func TestLateForgetsWhatIsAhead(t *testing.T) {
	_, l := marked()
	for _, behind := range [][]api.Entry{nil, l, {{Kind: api.EntAbort, Txn: 1}}, {{Kind: api.EntMove, Unit: 9, At: at, To: at}}, {{Kind: 0}}} {
		log := slices.Concat(l, []api.Entry{{Kind: api.EntMark}}, behind)
		asked := plainAfter(behind, len(l)+2)
		wantLate(t, log, asked, len(l)+1)
		wantAll(t, log, asked)
	}
}

// What is no EntMark is none for Late, either.
func TestLateAndOtherKinds(t *testing.T) {
	for _, kind := range unknown {
		wantLate(t, []api.Entry{crowded(kind)}, api.Seen{}, 0)
		wantLate(t, []api.Entry{{Kind: api.EntTurn, Half: 5}, crowded(kind), {}}, api.Seen{Half: 5}, 0)
	}
}

// TestEveryShortRow holds All, Late and On against the plain account, for every row of up to four of these entries.
func TestEveryShortRow(t *testing.T) {
	mark, _ := marked()
	each := []api.Entry{
		{Kind: api.EntSet, Txn: 1, At: rid(8, 0)},
		{Kind: api.EntSet, Txn: 2, At: rid(3, 1)},
		{Kind: api.EntBack, Txn: 1, Next: 77, At: rid(8, 0)},
		{Kind: api.EntCommit, Txn: 2},
		{Kind: api.EntEnd, Txn: 2},
		{Kind: api.EntUnit, Unit: 2, Moves: moves(3)},
		{Kind: api.EntMove, Unit: 2, At: rid(5, 0), To: rid(3, 0)},
		{Kind: api.EntDone, Unit: 2, Moves: moves(9, 8)},
		{Kind: api.EntTurn, Half: 6},
		mark,
		{Kind: api.EntMark},
	}
	var extend func(l []api.Entry, s api.Seen)
	extend = func(l []api.Entry, s api.Seen) {
		asked := plainAfter(l, 1)
		late, from := look.Late(l)
		lateAsked, fromAsked := plainLate(l)
		if !equal(s, asked) || !equal(look.All(l), asked) || !equal(late, lateAsked) || from != fromAsked {
			t.Errorf("%v: On: %v; All: %v; Late: %v, %d; asked for: %v, and %v, %d", l, s, look.All(l), late, from, asked, lateAsked, fromAsked)
		}
		if len(l) == 4 {
			return
		}
		for _, e := range each {
			extend(append(slices.Clone(l), e), look.On(s, e, len(l)+1))
		}
	}
	extend(nil, api.Seen{})
}

// draw answers numbers from 0 to n - 1 that look mixed, and are always the same.
type draw uint32

func (d *draw) next(n int) int {
	*d = *d*1664525 + 1013904223
	return int(*d>>16) % n
}

// page is mostly one that there is.
func (d *draw) page() int {
	if d.next(12) == 0 {
		return noPages[d.next(len(noPages))]
	}
	return d.next(32)
}

func (d *draw) moves() []api.Move {
	var l []api.Move
	for range d.next(4) {
		l = append(l, api.Move{From: rid(d.page(), d.next(4)), To: rid(d.page(), d.next(4))})
	}
	return l
}

// entry is one of any kind, but no EntMark; several have the same Txn and the same Unit.
func (d *draw) entry() api.Entry {
	e := crowded(1 + d.next(10))
	if e.Kind == api.EntMark {
		e.Kind = unknown[d.next(len(unknown))]
	}
	e.Txn, e.Unit, e.Half = d.next(9), d.next(20), d.next(3)
	e.Prev, e.Next = d.next(100), d.next(100)
	e.At, e.To, e.Moves = rid(d.page(), d.next(4)), rid(d.page(), d.next(4)), d.moves()
	if e.Kind == api.EntSet && d.next(4) == 0 {
		e.Txn = numbers[d.next(len(numbers))]
	}
	return e
}

// mark is an EntMark that says anything.
func (d *draw) mark() api.Entry {
	p := plainOf(api.Seen{Units: d.next(30), Half: d.next(3)})
	for range d.next(5) {
		txn := d.next(12) - 1
		p.lives[txn] = api.Live{Txn: txn, Last: d.next(100), Next: d.next(100), Commit: d.next(2) == 0}
		p.dirty[d.page()] = d.next(100)
		p.open = append(p.open, api.Open{Unit: d.next(9), Moves: d.moves(), Done: d.next(3)})
	}
	return markOf(p.seen())
}

// fewer is s with fewer pages that are dirty, and with greater Recs.
func (d *draw) fewer(s api.Seen) api.Seen {
	s = roomySeen(s)
	s.Dirty = slices.DeleteFunc(s.Dirty, func(api.Dirty) bool { return d.next(3) == 0 })
	for i := range s.Dirty {
		s.Dirty[i].Rec += d.next(3)
	}
	return s
}

func TestLongRowsAsThePlainOne(t *testing.T) {
	d := draw(18)
	lived, dirty, open := 0, 0, 0
	for marks := range 4 {
		for range 10 {
			var l []api.Entry
			var s api.Seen
			p := plainOf(s)
			for i := range 400 {
				e := d.entry()
				if d.next(100) < 2*marks {
					e = d.mark()
				}
				l = append(l, e)
				p.on(e, i+1)
				asked := p.seen()
				wantOn(t, s, e, i+1, asked)
				s = look.On(s, e, i+1)
				lived, dirty, open = max(lived, len(s.Lives)), max(dirty, len(s.Dirty)), max(open, len(s.Open))
				if i%37 == 0 || i == 399 {
					wantAll(t, l, asked)
					asked, from := plainLate(l)
					wantLate(t, l, asked, from)
				}
			}
		}
	}
	if lived < 12 || dirty < 32 || open < 20 {
		t.Errorf("at the most: %d Lives, %d Dirty and %d Open", lived, dirty, open)
	}
}

// What follows: Late is All, if each mark says what All has said.

// wantLateAsAll holds it for a log, and for each of its beginnings.
func wantLateAsAll(t *testing.T, l []api.Entry) {
	t.Helper()
	for upTo := range len(l) + 1 {
		late, from := look.Late(l[:upTo])
		if s := look.All(l[:upTo]); !samePlaces(late, s) {
			t.Fatalf("%v: Late: %v, from %d; All: %v", l[:upTo], late, from, s)
		}
	}
}

func TestLateAsAll(t *testing.T) {
	d := draw(81)
	for often := 1; often < 40; often += 3 {
		for _, change := range []func(s api.Seen) api.Seen{roomySeen, d.fewer, func(s api.Seen) api.Seen { s.Dirty = nil; return s }} {
			var l []api.Entry
			marks := 0
			for range 150 {
				if d.next(often) == 0 {
					l = append(l, markOf(change(look.All(l))))
					marks++
				}
				l = append(l, d.entry())
			}
			wantLateAsAll(t, l)
			if marks < 150/often/3 {
				t.Errorf("%d marks of one in %d", marks, often)
			}
		}
	}
}

// With marks that say all, also of pages, and no more, Late is All in its Dirty, too.
func TestLateAsAllOfPages(t *testing.T) {
	d := draw(5)
	var l []api.Entry
	for i := range 300 {
		if i%11 == 3 {
			l = append(l, markOf(look.All(l)))
		}
		l = append(l, d.entry())
		late, from := look.Late(l)
		if s := look.All(l); !equal(late, s) || (from == 0) != (i < 3) {
			t.Fatalf("%v: Late: %v, from %d; All: %v", l, late, from, s)
		}
	}
}

// The pages that turn dirty are those that redo.Pages returns.
func TestDirtyAsRedoPages(t *testing.T) {
	d := draw(16)
	for range 3000 {
		e := d.entry()
		var asked []api.Dirty
		for _, n := range redo.Pages(e) {
			asked = append(asked, api.Dirty{Page: n, Rec: 9})
		}
		wantDirty(t, api.Seen{}, e, 9, asked)
	}
}
