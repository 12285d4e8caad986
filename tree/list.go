package tree

import (
	"cmp"
	"slices"
)

// list is items under keys, in ascending order of the keys.
type list[K cmp.Ordered, T any] []pair[K, T]

type pair[K cmp.Ordered, T any] struct {
	key  K
	item T
}

// find returns the index of a key, or the one at which it is missing.
func (l list[K, T]) find(k K) (i int, is bool) {
	return slices.BinarySearchFunc(l, k, func(x pair[K, T], k K) int { return cmp.Compare(x.key, k) })
}

// over returns the index of the last key that is at most k; 0 if there is none.
func (l list[K, T]) over(k K) int {
	i, is := l.find(k)
	if is {
		return i
	}
	return max(i-1, 0)
}

// halve takes the second half of a list away, and returns it.
func (l *list[K, T]) halve() list[K, T] {
	half := len(*l) / 2
	rest := slices.Clone((*l)[half:])
	*l = slices.Delete(*l, half, len(*l))
	return rest
}
