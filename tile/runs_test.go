package tile_test

import (
	"slices"
	"strings"
	"testing"

	"whim/api"
	"whim/tile"
)

// plain is a disk of two tiles as the chapter tells it, with a letter for the content of a tile.
type plain struct {
	now, synced [2]byte
	loose       [2]bool
	dead        bool
	armed       bool
	left        int
	mask        byte
}

func (p *plain) crash(mask byte) {
	bit := byte(1)
	for i := range p.loose {
		if p.loose[i] {
			if mask&bit == 0 {
				p.now[i] = p.synced[i]
			}
			bit <<= 1
		}
	}
	*p = plain{now: p.now, synced: p.now, dead: true}
}

// done is what a Write or Sync answers that has no other error.
func (p *plain) done() api.Errno {
	if p.armed && p.left == 0 {
		p.crash(p.mask)
		return api.ErrDown
	}
	p.left--
	return api.OK
}

func (p *plain) write(at int, c byte) api.Errno {
	if p.dead {
		return api.ErrDown
	}
	p.now[at], p.loose[at] = c, true
	return p.done()
}

func (p *plain) sync() api.Errno {
	if p.dead {
		return api.ErrDown
	}
	e := p.done()
	if e == api.OK {
		p.synced, p.loose = p.now, [2]bool{}
	}
	return e
}

func (p *plain) arm(at int, mask byte) {
	p.armed, p.left, p.mask = at >= 0, at, mask
}

// move is one thing that may happen to a disk, and the same for a plain one.
type move struct {
	name string
	disk func(d *tile.Disk) api.Errno
	same func(p *plain) api.Errno
}

func silent[D any](f func(d D)) func(d D) api.Errno {
	return func(d D) api.Errno { f(d); return api.OK }
}

func moves() []move {
	l := []move{
		{"Sync", (*tile.Disk).Sync, (*plain).sync},
		{"Power", silent((*tile.Disk).Power), silent(func(p *plain) { p.dead = false })},
	}
	for i := range 2 {
		c := "ab"[i]
		l = append(l, move{"Write " + string(rune(c)),
			func(d *tile.Disk) api.Errno { return d.Write(i, full(c)) },
			func(p *plain) api.Errno { return p.write(i, c) }})
	}
	l = append(l, move{"Write x",
		func(d *tile.Disk) api.Errno { return d.Write(0, full('x')) },
		func(p *plain) api.Errno { return p.write(0, 'x') }})
	for mask := range byte(4) {
		l = append(l, move{"Crash " + string(rune('0'+mask)),
			silent(func(d *tile.Disk) { d.Crash([]byte{mask}) }),
			silent(func(p *plain) { p.crash(mask) })})
	}
	for at := -1; at < 3; at++ {
		mask := byte(at) & 3
		l = append(l, move{"Arm " + string(rune('0'+at)),
			silent(func(d *tile.Disk) { d.Arm(at, []byte{mask}) }),
			silent(func(p *plain) { p.arm(at, mask) })})
	}
	return l
}

// alike tells whether all that a disk shows is what a plain one has.
func alike(d *tile.Disk, p plain) bool {
	var loose []int
	for i := range p.now {
		if p.loose[i] {
			loose = append(loose, i)
		}
		b, e := d.Read(i)
		if p.dead {
			if e != api.ErrDown || b != nil {
				return false
			}
		} else if e != api.OK || b[0] != p.now[i] || b[api.Tile-1] != p.now[i] {
			return false
		}
	}
	return d.Dead() == p.dead && slices.Equal(d.Loose(), loose)
}

// TestAllShortRuns goes on from a copy at every fork, so that a Copy that shares anything shows.
func TestAllShortRuns(t *testing.T) {
	l := moves()
	var run []string
	var from func(d *tile.Disk, p plain, deep int)
	from = func(d *tile.Disk, p plain, deep int) {
		if deep == 0 {
			return
		}
		for _, m := range l {
			c, q := d.Copy(), p
			run = append(run, m.name)
			if got, asked := m.disk(c), m.same(&q); got != asked || !alike(c, q) {
				t.Fatalf("%s: answers %d, not %d; asked for: %+v", strings.Join(run, ", "), got, asked, q)
			}
			from(c, q, deep-1)
			run = run[:len(run)-1]
		}
		if !alike(d, p) {
			t.Fatalf("%s: changed by its copies", strings.Join(run, ", "))
		}
	}
	from(tile.New(2), plain{}, 5)
}
