// Package tile is a simulated disk of small tiles that may crash: see doc/01-tile.md.
package tile

import (
	"maps"
	"slices"

	"whim/api"
)

// block is the content of a tile.
type block [api.Tile]byte

// Disk is a disk of tiles. Its zero value has none.
type Disk struct {
	tiles int
	now   map[int]block // what was stored last; a tile that is missing here was never stored
	old   map[int]block // the loose tiles, each with what it had at the last Sync
	dead  bool
	armed cut
}

// cut is the failure that a disk is armed with. Its zero value is none.
type cut struct {
	set  bool
	left int // operations that still succeed before the one that is cut
	mask []byte
}

// New returns a disk with that many tiles, but no fewer than 0 and no more than MaxTiles.
func New(tiles int) *Disk {
	return &Disk{
		tiles: min(max(tiles, 0), api.MaxTiles),
		now:   map[int]block{},
		old:   map[int]block{},
	}
}

// Write stores b in a tile, which is loose then.
func (d *Disk) Write(at int, b []byte) api.Errno {
	if e := d.ready(); e != api.OK {
		return e
	}
	if !d.has(at) || len(b) != api.Tile {
		return api.ErrBad
	}
	d.store(at, b)
	if d.cutNow() {
		d.Crash(d.armed.mask)
		return api.ErrDown
	}
	return api.OK
}

// Read returns what was stored in a tile last.
func (d *Disk) Read(at int) ([]byte, api.Errno) {
	if e := d.ready(); e != api.OK {
		return nil, e
	}
	if !d.has(at) {
		return nil, api.ErrBad
	}
	b := d.now[at]
	return b[:], api.OK
}

// Sync makes every tile keep what it has.
func (d *Disk) Sync() api.Errno {
	if e := d.ready(); e != api.OK {
		return e
	}
	if d.cutNow() {
		d.Crash(d.armed.mask)
		return api.ErrDown
	}
	clear(d.old)
	return api.OK
}

// Arm makes the operation with the number at fail, counted from now on; none if at is negative.
func (d *Disk) Arm(at int, mask []byte) {
	if d == nil {
		return
	}
	d.armed = cut{}
	if at >= 0 {
		d.armed = cut{set: true, left: at, mask: slices.Clone(mask)}
	}
}

// Crash lets the disk crash: of the loose tiles, those that mask names keep their content.
func (d *Disk) Crash(mask []byte) {
	if d == nil {
		return
	}
	for i, at := range d.Loose() {
		if !bit(mask, i) {
			d.now[at] = d.old[at]
		}
	}
	clear(d.old)
	d.dead = true
	d.armed = cut{}
}

// Power makes a dead disk usable again.
func (d *Disk) Power() {
	if d != nil {
		d.dead = false
	}
}

// Dead reports whether the disk is dead.
func (d *Disk) Dead() bool {
	return d != nil && d.dead
}

// Tiles returns the number of tiles.
func (d *Disk) Tiles() int {
	if d == nil {
		return 0
	}
	return d.tiles
}

// Loose returns the tiles that were written since the last Sync, in ascending order.
func (d *Disk) Loose() []int {
	if d == nil {
		return nil
	}
	return slices.Sorted(maps.Keys(d.old))
}

// Copy returns an independent disk that is equal in all respects.
func (d *Disk) Copy() *Disk {
	if d == nil {
		return nil
	}
	c := *d
	c.now = maps.Clone(d.now)
	c.old = maps.Clone(d.old)
	c.armed.mask = slices.Clone(d.armed.mask)
	return &c
}

// ready returns the error that every operation of a nil or dead disk has.
func (d *Disk) ready() api.Errno {
	if d == nil {
		return api.ErrBad
	}
	if d.dead {
		return api.ErrDown
	}
	return api.OK
}

func (d *Disk) has(at int) bool {
	return at >= 0 && at < d.tiles
}

func (d *Disk) store(at int, b []byte) {
	// Only the first write since a Sync still finds what the tile had then.
	if _, loose := d.old[at]; !loose {
		d.old[at] = d.now[at]
	}
	var c block
	copy(c[:], b)
	d.now[at] = c
}

// cutNow counts an operation that would succeed, and tells whether it is the one to be cut.
func (d *Disk) cutNow() bool {
	if !d.armed.set {
		return false
	}
	if d.armed.left == 0 {
		return true
	}
	d.armed.left--
	return false
}

// bit returns bit i of a mask; bits behind its end are not set.
func bit(mask []byte, i int) bool {
	return i/8 < len(mask) && mask[i/8]>>(i%8)&1 == 1
}
