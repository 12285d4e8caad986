package trail

import (
	"slices"

	"whim/api"
	"whim/entry"
)

const (
	headLen = 2   // bytes of the length that a frame begins with
	tailLen = 2   // bytes of the sums that it ends with
	sumMod  = 255 // what a sum does not reach
)

// Frame returns the frame of an entry.
func Frame(e api.Entry) []byte {
	b := entry.Put(e)
	if len(b) == 0 {
		return nil
	}
	x, y := sums(b)
	return slices.Concat([]byte{byte(len(b) >> 8), byte(len(b))}, b, []byte{x, y})
}

// Scan returns the entries of the frames at the beginning of b, and how many bytes these frames have.
func Scan(b []byte) (l []api.Entry, n int) {
	for {
		e, size, ok := unframe(b[n:])
		if !ok {
			return l, n
		}
		l = append(l, e)
		n += size
	}
}

// unframe returns the entry of the frame at the beginning of b, and how many bytes the frame has.
func unframe(b []byte) (e api.Entry, size int, ok bool) {
	if len(b) < headLen {
		return api.Entry{}, 0, false
	}
	end := headLen + (int(b[0])<<8 | int(b[1]))
	if len(b) < end+tailLen {
		return api.Entry{}, 0, false
	}
	body := b[headLen:end]
	if x, y := sums(body); b[end] != x || b[end+1] != y {
		return api.Entry{}, 0, false
	}
	e, err := entry.Take(body)
	if err != api.OK {
		return api.Entry{}, 0, false
	}
	return e, end + tailLen, true
}

// sums returns the two sums of bytes; the second one is of the first one's values, so that the order of the bytes counts.
func sums(b []byte) (x, y byte) {
	var p, q int
	for _, c := range b {
		p = (p + int(c)) % sumMod
		q = (q + p) % sumMod
	}
	return byte(p), byte(q)
}
