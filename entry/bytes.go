package entry

import "whim/api"

const maxList = 40 // elements of a list

// Bytes of the numbers that have more than one.
const (
	unitLen = 2
	lsnLen  = 3
)

// encode returns the encoding of an entry, and whether it is valid: if not, it has none.
func encode(e api.Entry) (b []byte, ok bool) {
	var w writer
	w.entry(e)
	if w.bad {
		return nil, false
	}
	return w.b, true
}

// decode returns an entry of any bytes. It is the entry of which they are the encoding, if there is one.
func decode(b []byte) api.Entry {
	r := reader{rest: b}
	return r.entry()
}

// writer gathers an encoding.
type writer struct {
	b   []byte
	bad bool // something was written that no encoding has
}

func (w *writer) entry(e api.Entry) {
	w.need(e.Kind >= api.EntSet && e.Kind <= api.EntTurn)
	w.number(e.Kind, 1)
	w.number(e.Txn, 1)
	w.number(e.Unit, unitLen)
	w.number(e.Half, 1)
	w.number(e.Prev, lsnLen)
	w.number(e.Next, lsnLen)
	w.place(e.At)
	w.place(e.To)
	w.cell(e.Old)
	w.cell(e.New)
	writeList(w, e.Moves, (*writer).move)
	writeList(w, e.Lives, (*writer).live)
	writeList(w, e.Dirty, (*writer).dirty)
	writeList(w, e.Open, (*writer).open)
}

func (w *writer) move(m api.Move) {
	w.place(m.From)
	w.place(m.To)
}

func (w *writer) live(l api.Live) {
	w.number(l.Txn, 1)
	w.number(l.Last, lsnLen)
	w.number(l.Next, lsnLen)
	w.flag(l.Commit)
}

func (w *writer) dirty(d api.Dirty) {
	w.number(d.Page, 1)
	w.number(d.Rec, lsnLen)
}

func (w *writer) open(o api.Open) {
	w.number(o.Unit, unitLen)
	w.number(o.Done, 1)
	writeList(w, o.Moves, (*writer).move)
}

func (w *writer) place(p api.RID) {
	w.number(p.Page, 1)
	w.number(p.Cell, 1)
}

func (w *writer) cell(b []byte) {
	if w.need(len(b) == 0 || len(b) == api.CellSize) {
		w.number(len(b), 1)
		w.b = append(w.b, b...)
	}
}

func (w *writer) flag(f bool) {
	if f {
		w.number(1, 1)
	} else {
		w.number(0, 1)
	}
}

// number writes n in that many bytes.
func (w *writer) number(n, size int) {
	w.need(n >= 0 && n>>(8*size) == 0)
	for i := size - 1; i >= 0; i-- {
		w.b = append(w.b, byte(n>>(8*i)))
	}
}

// need passes on whether something holds without which there is no encoding.
func (w *writer) need(holds bool) bool {
	w.bad = w.bad || !holds
	return holds
}

// writeList writes the number of elements, and each one as put does.
func writeList[T any](w *writer, l []T, put func(*writer, T)) {
	if !w.need(len(l) <= maxList) {
		return
	}
	w.number(len(l), 1)
	for _, x := range l {
		put(w, x)
	}
}

// reader takes bytes apart. Where they end too early it goes on with none, so that it needs no errors.
type reader struct {
	rest []byte
}

func (r *reader) entry() (e api.Entry) {
	e.Kind = r.number(1)
	e.Txn = r.number(1)
	e.Unit = r.number(unitLen)
	e.Half = r.number(1)
	e.Prev = r.number(lsnLen)
	e.Next = r.number(lsnLen)
	e.At = r.place()
	e.To = r.place()
	e.Old = r.cell()
	e.New = r.cell()
	e.Moves = readList(r, (*reader).move)
	e.Lives = readList(r, (*reader).live)
	e.Dirty = readList(r, (*reader).dirty)
	e.Open = readList(r, (*reader).open)
	return e
}

func (r *reader) move() (m api.Move) {
	m.From = r.place()
	m.To = r.place()
	return m
}

func (r *reader) live() (l api.Live) {
	l.Txn = r.number(1)
	l.Last = r.number(lsnLen)
	l.Next = r.number(lsnLen)
	l.Commit = r.number(1) == 1
	return l
}

func (r *reader) dirty() (d api.Dirty) {
	d.Page = r.number(1)
	d.Rec = r.number(lsnLen)
	return d
}

func (r *reader) open() (o api.Open) {
	o.Unit = r.number(unitLen)
	o.Done = r.number(1)
	o.Moves = readList(r, (*reader).move)
	return o
}

func (r *reader) place() (p api.RID) {
	p.Page = r.number(1)
	p.Cell = r.number(1)
	return p
}

func (r *reader) cell() []byte {
	n := r.number(1)
	return append([]byte(nil), r.cut(n)...)
}

// number reads one in that many bytes.
func (r *reader) number(size int) int {
	n := 0
	for _, c := range r.cut(size) {
		n = n<<8 | int(c)
	}
	return n
}

// cut takes the next n bytes, or all that are left if these are fewer.
//
// No other method has to do with rest, and this one calls none: Go leaves it open whether a variable
// is read ahead of a call that changes it, or behind it, if both stand in one expression.
func (r *reader) cut(n int) []byte {
	n = min(n, len(r.rest))
	b := r.rest[:n]
	r.rest = r.rest[n:]
	return b
}

// readList reads the number of elements, and each one as take does.
func readList[T any](r *reader, take func(*reader) T) []T {
	var l []T
	for range r.number(1) {
		l = append(l, take(r))
	}
	return l
}
