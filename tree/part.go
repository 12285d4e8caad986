package tree

import (
	"cmp"
	"slices"
)

// part is a leaf, or a node with all below it. Its zero value is a leaf without keys.
type part[K cmp.Ordered, V any] struct {
	pairs list[K, V]           // of a leaf: its keys with their values
	kids  list[K, *part[K, V]] // of a node: its children, each under the least key in it
}

func (p *part[K, V]) leaf() bool {
	return len(p.kids) == 0
}

// count returns the number of keys of a leaf, or of children of a node.
func (p *part[K, V]) count() int {
	return len(p.pairs) + len(p.kids)
}

// least returns the least key of a part that has any.
func (p *part[K, V]) least() K {
	if p.leaf() {
		return p.pairs[0].key
	}
	return p.kids[0].key
}

func (p *part[K, V]) get(k K) (v V, ok bool) {
	for !p.leaf() {
		p = p.kids[p.kids.over(k)].item
	}
	i, is := p.pairs.find(k)
	if !is {
		return v, false
	}
	return p.pairs[i].item, true
}

// from gives out the keys that are at least k until it is told to stop, and returns false then.
func (p *part[K, V]) from(k K, give func(K, V) bool) bool {
	if !p.leaf() {
		for _, kid := range p.kids[p.kids.over(k):] {
			if !kid.item.from(k, give) {
				return false
			}
		}
		return true
	}
	i, _ := p.pairs.find(k)
	for _, x := range p.pairs[i:] {
		if !give(x.key, x.item) {
			return false
		}
	}
	return true
}

// put sets the value of a key. The part may have one too many then.
func (p *part[K, V]) put(k K, v V) bool {
	if !p.leaf() {
		i := p.kids.over(k)
		fresh := p.kids[i].item.put(k, v)
		p.relieve(i)
		return fresh
	}
	i, is := p.pairs.find(k)
	if is {
		p.pairs[i].item = v
		return false
	}
	p.pairs = slices.Insert(p.pairs, i, pair[K, V]{k, v})
	return true
}

// relieve splits a child in which a key was put, if it has too many.
func (p *part[K, V]) relieve(i int) {
	kid := p.kids[i].item
	if kid.count() > atMost {
		p.insert(i+1, kid.split())
	}
	p.kids[i].key = kid.least()
}

// cut removes a key. The part may have one too few then.
func (p *part[K, V]) cut(k K) bool {
	if !p.leaf() {
		i := p.kids.over(k)
		had := p.kids[i].item.cut(k)
		p.refill(i)
		return had
	}
	i, is := p.pairs.find(k)
	if is {
		p.pairs = slices.Delete(p.pairs, i, i+1)
	}
	return is
}

// refill fills up a child from which a key was cut, if it has too few, from its neighbour, or joins the two.
func (p *part[K, V]) refill(i int) {
	if p.kids[i].item.count() < atLeast {
		i = max(i-1, 0)
		right := p.kids[i+1].item
		p.kids[i].item.share(right)
		p.kids = slices.Delete(p.kids, i+1, i+2)
		if right.count() > 0 {
			p.insert(i+1, right)
		}
	}
	p.kids[i].key = p.kids[i].item.least()
}

// insert makes kid a child of a node.
func (p *part[K, V]) insert(i int, kid *part[K, V]) {
	p.kids = slices.Insert(p.kids, i, pair[K, *part[K, V]]{kid.least(), kid})
}

// split takes the second half of a part away, and returns it.
func (p *part[K, V]) split() *part[K, V] {
	return &part[K, V]{pairs: p.pairs.halve(), kids: p.kids.halve()}
}

// share divides what two neighbours have evenly, or leaves all of it to the left one if it is not enough for both.
func (p *part[K, V]) share(right *part[K, V]) {
	p.pairs = append(p.pairs, right.pairs...)
	p.kids = append(p.kids, right.kids...)
	*right = part[K, V]{}
	if p.count() >= 2*atLeast {
		*right = *p.split()
	}
}
