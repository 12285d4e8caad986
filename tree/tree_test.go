package tree_test

import (
	"cmp"
	"math"
	"slices"
	"strconv"
	"strings"
	"testing"

	"whim/api"
	"whim/tree"
)

// The face, as the chapter lists it.
var (
	_ func() *tree.Tree[float64, []int]                                                        = tree.Make[float64, []int]
	_ func() *tree.Tree[string, api.RID]                                                       = tree.New
	_ func(*tree.Tree[int8, string], int8, string) bool                                        = (*tree.Tree[int8, string]).Put
	_ func(*tree.Tree[string, api.RID], string) (api.RID, bool)                                = (*tree.Tree[string, api.RID]).Get
	_ func(*tree.Tree[uint, *int], uint) bool                                                  = (*tree.Tree[uint, *int]).Cut
	_ func(*tree.Tree[string, api.RID], string, int) (ks []string, vs []api.RID)               = (*tree.Tree[string, api.RID]).From
	_ func(*tree.Tree[float32, struct{}]) int                                                  = (*tree.Tree[float32, struct{}]).Len
	_ func(*tree.Tree[rune, func()]) [][]int                                                   = (*tree.Tree[rune, func()]).Shape
	_ func(*tree.Tree[string, *tree.Tree[int, int]], string) (v *tree.Tree[int, int], is bool) = (*tree.Tree[string, *tree.Tree[int, int]]).Get
)

func want[T comparable](t *testing.T, what string, got, asked T) {
	t.Helper()
	if got != asked {
		t.Errorf("%s: %v, not %v", what, got, asked)
	}
}

// wantBalanced holds what a tree tells of its shape against what the chapter says of a balanced tree.
func wantBalanced[K cmp.Ordered, V any](t *testing.T, x *tree.Tree[K, V]) {
	t.Helper()
	shape := x.Shape()
	if fault := faultOf(shape, x.Len()); fault != "" {
		t.Fatalf("%s: %s, of %d keys", fault, text(shape), x.Len())
	}
}

// faultOf returns what keeps a shape from being that of a balanced tree with so many keys.
func faultOf(shape [][]int, keys int) string {
	if len(shape) == 0 || len(shape[0]) != 1 {
		return "not one root"
	}
	for i, level := range shape {
		sum := 0
		for _, n := range level {
			sum += n
			switch {
			case n > 4:
				return "too many"
			case n < 2 && i > 0:
				return "too few"
			case n < 2 && len(shape) > 1:
				return "a root of one child"
			}
		}
		switch {
		case i+1 == len(shape) && sum != keys:
			return "other than its keys"
		case i+1 < len(shape) && sum != len(shape[i+1]):
			return "children that are not there"
		}
	}
	least := 1
	for room := 4; room < keys; room *= 4 {
		least++
	}
	if len(shape) > 2*least {
		return "too deep"
	}
	return ""
}

// text writes the numbers of a shape, with a slash between two levels.
func text(shape [][]int) string {
	var levels []string
	for _, l := range shape {
		var counts []string
		for _, n := range l {
			counts = append(counts, strconv.Itoa(n))
		}
		levels = append(levels, strings.Join(counts, " "))
	}
	return strings.Join(levels, " / ")
}

func wantShape[K cmp.Ordered, V any](t *testing.T, x *tree.Tree[K, V], asked string) {
	t.Helper()
	wantBalanced(t, x)
	if got := text(x.Shape()); got != asked {
		t.Errorf("Shape: %s, not %s", got, asked)
	}
}

func wantGet[K cmp.Ordered, V comparable](t *testing.T, x *tree.Tree[K, V], k K, asked V, is bool) {
	t.Helper()
	if v, ok := x.Get(k); v != asked || ok != is {
		t.Errorf("Get of %v: %v, %t; asked for: %v, %t", k, v, ok, asked, is)
	}
}

func wantFrom[K cmp.Ordered, V comparable](t *testing.T, x *tree.Tree[K, V], k K, most int, ks []K, vs []V) {
	t.Helper()
	if gotKs, gotVs := x.From(k, most); !slices.Equal(gotKs, ks) || !slices.Equal(gotVs, vs) {
		t.Errorf("From of %v, %d: %v, %v; asked for: %v, %v", k, most, gotKs, gotVs, ks, vs)
	}
}

// of is the value that a key has in these tests.
func of(k int) string { return "v" + strconv.Itoa(k) }

func values(ks []int) []string {
	var vs []string
	for _, k := range ks {
		vs = append(vs, of(k))
	}
	return vs
}

// wantKeys is that a tree has exactly these keys, with their values.
func wantKeys(t *testing.T, x *tree.Tree[int, string], ks ...int) {
	t.Helper()
	want(t, "Len", x.Len(), len(ks))
	wantFrom(t, x, math.MinInt, -1, ks, values(ks))
	for _, k := range ks {
		wantGet(t, x, k, of(k), true)
	}
	wantBalanced(t, x)
}

// add puts keys that are not present.
func add(t *testing.T, x *tree.Tree[int, string], ks ...int) {
	t.Helper()
	for _, k := range ks {
		n := x.Len()
		want(t, "Put of "+strconv.Itoa(k), x.Put(k, of(k)), true)
		want(t, "Len", x.Len(), n+1)
		wantGet(t, x, k, of(k), true)
		wantBalanced(t, x)
	}
}

// remove cuts keys that are present.
func remove(t *testing.T, x *tree.Tree[int, string], ks ...int) {
	t.Helper()
	for _, k := range ks {
		n := x.Len()
		want(t, "Cut of "+strconv.Itoa(k), x.Cut(k), true)
		want(t, "Len", x.Len(), n-1)
		wantGet(t, x, k, "", false)
		wantBalanced(t, x)
	}
}

func made(t *testing.T, ks ...int) *tree.Tree[int, string] {
	t.Helper()
	x := tree.Make[int, string]()
	add(t, x, ks...)
	return x
}

// upTo returns the multiples of 10 from 10 on, that many.
func upTo(n int) []int {
	var ks []int
	for k := range n {
		ks = append(ks, 10*k+10)
	}
	return ks
}

func downFrom(n int) []int {
	ks := upTo(n)
	slices.Reverse(ks)
	return ks
}

// inAllOrders calls f with ks in each order of them.
func inAllOrders(ks []int, f func(ks []int)) {
	var place func(at int)
	place = func(at int) {
		if at == len(ks) {
			f(slices.Clone(ks))
		}
		for i := at; i < len(ks); i++ {
			ks[at], ks[i] = ks[i], ks[at]
			place(at + 1)
			ks[at], ks[i] = ks[i], ks[at]
		}
	}
	place(0)
}

// The example

func TestExample(t *testing.T) {
	inAllOrders([]int{1, 2, 3, 4, 5}, func(ks []int) {
		x := made(t, ks...)
		shape := x.Shape()
		if len(shape) != 2 || len(shape[0]) != 1 || len(shape[1]) != 2 {
			t.Errorf("%v: %s", ks, text(shape))
		}
		wantKeys(t, x, 1, 2, 3, 4, 5)
	})
}

// P9.1 Put, Get, Cut, From, Len

func TestPutOfAKeyThatIsPresent(t *testing.T) {
	for n := range 40 {
		for _, ks := range [][]int{upTo(n), downFrom(n)} {
			x := made(t, ks...)
			shape := text(x.Shape())
			for i, k := range ks {
				want(t, "Put", x.Put(k, "other"), false)
				want(t, "Len", x.Len(), n)
				wantShape(t, x, shape)
				wantGet(t, x, k, "other", true)
				if i > 0 {
					wantGet(t, x, ks[i-1], of(ks[i-1]), true)
				}
				want(t, "Put", x.Put(k, ""), false)
				wantGet(t, x, k, "", true)
				want(t, "Put", x.Put(k, of(k)), false)
			}
			wantKeys(t, x, upTo(n)...)
		}
	}
}

func TestKeysThatAreNotPresent(t *testing.T) {
	for n := range 40 {
		x := made(t, upTo(n)...)
		shape := text(x.Shape())
		absent := []int{math.MinInt, -1, 0, math.MaxInt}
		for _, k := range append(upTo(n), 0) {
			absent = append(absent, k+1, k+9)
		}
		for _, k := range absent {
			wantGet(t, x, k, "", false)
			want(t, "Cut", x.Cut(k), false)
			want(t, "Len", x.Len(), n)
			wantShape(t, x, shape)
		}
		wantKeys(t, x, upTo(n)...)
	}
}

func TestCut(t *testing.T) {
	for n := range 40 {
		for i, k := range upTo(n) {
			x := made(t, upTo(n)...)
			remove(t, x, k)
			want(t, "Cut of what is gone", x.Cut(k), false)
			wantKeys(t, x, slices.Delete(upTo(n), i, i+1)...)
			// It may come back, with another value.
			want(t, "Put", x.Put(k, "again"), true)
			wantGet(t, x, k, "again", true)
			want(t, "Put", x.Put(k, of(k)), false)
			wantKeys(t, x, upTo(n)...)
		}
	}
}

func TestZeroKeysAndValues(t *testing.T) {
	x := tree.New()
	want(t, "Put", x.Put("", api.RID{}), true)
	wantGet(t, x, "", api.RID{}, true)
	want(t, "Len", x.Len(), 1)
	wantFrom(t, x, "", -1, []string{""}, []api.RID{{}})
	want(t, "Put", x.Put("\x00", api.RID{Cell: 1}), true)
	want(t, "Put", x.Put("", api.RID{Page: 2}), false)
	wantFrom(t, x, "", -1, []string{"", "\x00"}, []api.RID{{Page: 2}, {Cell: 1}})
	want(t, "Cut", x.Cut(""), true)
	wantGet(t, x, "", api.RID{}, false)
	wantGet(t, x, "\x00", api.RID{Cell: 1}, true)
}

func TestFrom(t *testing.T) {
	for n := range 40 {
		for _, ks := range [][]int{upTo(n), downFrom(n)} {
			x := made(t, ks...)
			for k := -1; k <= 10*n+11; k++ {
				wantFromOf(t, x, upTo(n), k)
			}
			wantFromOf(t, x, upTo(n), math.MinInt)
			wantFromOf(t, x, upTo(n), math.MaxInt)
		}
	}
}

// wantFromOf holds From of a tree with these keys against their list.
func wantFromOf(t *testing.T, x *tree.Tree[int, string], ks []int, k int) {
	t.Helper()
	for len(ks) > 0 && ks[0] < k {
		ks = ks[1:]
	}
	for _, most := range []int{math.MinInt, -2, -1} {
		wantFrom(t, x, k, most, ks, values(ks))
	}
	for _, most := range []int{0, 1, 2, 3, 4, 5, 8, len(ks) - 1, len(ks), len(ks) + 1, 1 << 32, math.MaxInt} {
		if most >= 0 {
			first := ks[:min(most, len(ks))]
			wantFrom(t, x, k, most, first, values(first))
		}
	}
}

func TestFromOfAnEmptyTree(t *testing.T) {
	emptied := made(t, upTo(20)...)
	remove(t, emptied, upTo(20)...)
	for _, x := range []*tree.Tree[int, string]{tree.Make[int, string](), emptied, {}, nil} {
		for _, k := range []int{math.MinInt, 0, math.MaxInt} {
			wantFromOf(t, x, nil, k)
		}
	}
}

func TestResultsOfFromAreSharedWithNothing(t *testing.T) {
	for _, n := range []int{1, 3, 4, 5, 16, 33} {
		x := tree.Make[int, int]()
		for _, k := range upTo(n) {
			x.Put(k, k)
		}
		for _, most := range []int{-1, 1, n} {
			asked, _ := x.From(0, most)
			ks, vs := x.From(0, most)
			others, otherVs := x.From(0, most)
			for i := range ks {
				ks[i] = -1
			}
			if !slices.Equal(vs, asked) {
				t.Errorf("the values changed with the keys: %v", vs)
			}
			clear(ks[:cap(ks)])
			clear(vs[:cap(vs)])
			if !slices.Equal(others, asked) || !slices.Equal(otherVs, asked) {
				t.Errorf("two results are not independent: %v, %v", others, otherVs)
			}
			wantFrom(t, x, 0, most, asked, asked)
			// Nor do they change with the tree.
			before, _ := x.From(0, -1)
			all, allVs := x.From(0, -1)
			x.Put(1, 1)
			x.Put(10, -10)
			x.Cut(10 * n)
			if !slices.Equal(all, before) || !slices.Equal(allVs, before) {
				t.Errorf("a result changed with the tree: %v, %v", all, allVs)
			}
			x.Cut(1)
			x.Put(10, 10)
			x.Put(10*n, 10*n)
		}
	}
}

// Splits

func TestRootLeafIsFilledAndSplit(t *testing.T) {
	x := tree.Make[int, string]()
	wantShape(t, x, "0")
	for i, asked := range []string{"1", "2", "3", "4", "2 / 2 3"} {
		add(t, x, 10*i+10)
		wantShape(t, x, asked)
	}
	inAllOrders(upTo(4), func(ks []int) { wantShape(t, made(t, ks...), "4") })
	inAllOrders(upTo(5), func(ks []int) { wantShape(t, made(t, ks...), "2 / 2 3") })
}

func TestLeavesAreSplitWhereverTheyAre(t *testing.T) {
	x := made(t, upTo(5)...)
	add(t, x, 60)
	wantShape(t, x, "2 / 2 4")
	add(t, x, 70)
	wantShape(t, x, "3 / 2 2 3")
	add(t, x, 1, 2)
	wantShape(t, x, "3 / 4 2 3")
	add(t, x, 3)
	wantShape(t, x, "4 / 2 3 2 3")
	add(t, x, 31, 32)
	wantShape(t, x, "4 / 2 3 4 3")
	wantKeys(t, x, 1, 2, 3, 10, 20, 30, 31, 32, 40, 50, 60, 70)
}

func TestNodesAreSplit(t *testing.T) {
	x := made(t, upTo(10)...)
	wantShape(t, x, "4 / 2 2 2 4")
	add(t, x, 110)
	wantShape(t, x, "2 / 2 3 / 2 2 2 2 3")
	wantKeys(t, x, upTo(11)...)
	// The first of several, with others on its right; the last one; one between two.
	x = made(t, downFrom(22)...)
	wantShape(t, x, "2 / 4 3 / 4 3 3 3 3 3 3")
	add(t, x, 1)
	wantShape(t, x, "3 / 2 3 3 / 2 3 3 3 3 3 3 3")
	x = made(t, upTo(14)...)
	wantShape(t, x, "2 / 2 4 / 2 2 2 2 2 4")
	add(t, x, 150)
	wantShape(t, x, "3 / 2 2 3 / 2 2 2 2 2 2 3")
	add(t, x, 51, 52, 53, 71, 72, 73)
	wantShape(t, x, "3 / 2 4 3 / 2 2 2 3 2 3 2 2 3")
	add(t, x, 54, 55)
	wantShape(t, x, "4 / 2 2 3 3 / 2 2 2 2 3 2 3 2 2 3")
	wantKeys(t, x, 10, 20, 30, 40, 50, 51, 52, 53, 54, 55, 60, 70, 71, 72, 73, 80, 90, 100, 110, 120, 130, 140, 150)
}

func TestRootThatIsANodeIsSplitAgain(t *testing.T) {
	x := made(t, upTo(22)...)
	wantShape(t, x, "4 / 2 2 2 4 / 2 2 2 2 2 2 2 2 2 4")
	add(t, x, 230)
	wantShape(t, x, "2 / 2 3 / 2 2 2 2 3 / 2 2 2 2 2 2 2 2 2 2 3")
	wantKeys(t, x, upTo(23)...)
}

// Parts that have too few

func TestLeafIsFilledUpFromItsLeft(t *testing.T) {
	x := made(t, 10, 20, 30, 40, 50, 15)
	remove(t, x, 40)
	wantShape(t, x, "2 / 3 2")
	remove(t, x, 50)
	wantShape(t, x, "2 / 2 2")
	wantKeys(t, x, 10, 15, 20, 30)
	x = made(t, 10, 20, 30, 40, 50, 15, 16)
	remove(t, x, 30)
	wantShape(t, x, "2 / 4 2")
	remove(t, x, 40)
	wantShape(t, x, "2 / 2 3")
	wantKeys(t, x, 10, 15, 16, 20, 50)
	// The keys that went over are found where they are now, and so are those that come between them.
	add(t, x, 12, 17, 18)
	wantKeys(t, x, 10, 12, 15, 16, 17, 18, 20, 50)
}

func TestLeafIsFilledUpFromItsRight(t *testing.T) {
	x := made(t, upTo(5)...)
	remove(t, x, 10)
	wantShape(t, x, "2 / 2 2")
	wantKeys(t, x, 20, 30, 40, 50)
	x = made(t, upTo(6)...)
	wantShape(t, x, "2 / 2 4")
	remove(t, x, 20)
	wantShape(t, x, "2 / 2 3")
	wantKeys(t, x, 10, 30, 40, 50, 60)
	add(t, x, 35, 36, 5)
	wantKeys(t, x, 5, 10, 30, 35, 36, 40, 50, 60)
}

func TestLeavesAreJoined(t *testing.T) {
	for k, asked := range map[int]string{
		10: "2 / 3 3", // with the one on its right
		20: "2 / 3 3",
		30: "2 / 3 3", // with the one on its left
		40: "2 / 3 3",
		50: "3 / 2 2 2",
	} {
		x := made(t, upTo(7)...)
		wantShape(t, x, "3 / 2 2 3")
		remove(t, x, k)
		wantShape(t, x, asked)
		wantKeys(t, x, slices.Delete(upTo(7), k/10-1, k/10)...)
	}
	x := made(t, upTo(7)...)
	remove(t, x, 50)
	remove(t, x, 60)
	wantShape(t, x, "2 / 2 3")
	wantKeys(t, x, 10, 20, 30, 40, 70)
}

func TestNodeIsFilledUpFromItsLeft(t *testing.T) {
	x := made(t, downFrom(17)...)
	remove(t, x, 170, 160, 150, 140, 130)
	wantShape(t, x, "2 / 3 2 / 2 3 3 2 2")
	remove(t, x, 120)
	wantShape(t, x, "2 / 2 2 / 2 3 3 3")
	wantKeys(t, x, upTo(11)...)
	x = made(t, downFrom(20)...)
	remove(t, x, 200, 190, 180, 170, 160)
	wantShape(t, x, "2 / 4 2 / 2 3 3 3 2 2")
	remove(t, x, 150)
	wantShape(t, x, "2 / 2 3 / 2 3 3 3 3")
	wantKeys(t, x, upTo(14)...)
	add(t, x, 51, 52, 53, 81, 82, 83)
	wantKeys(t, x, 10, 20, 30, 40, 50, 51, 52, 53, 60, 70, 80, 81, 82, 83, 90, 100, 110, 120, 130, 140)
}

func TestNodeIsFilledUpFromItsRight(t *testing.T) {
	x := made(t, upTo(11)...)
	wantShape(t, x, "2 / 2 3 / 2 2 2 2 3")
	remove(t, x, 10)
	wantShape(t, x, "2 / 2 2 / 3 2 2 3")
	wantKeys(t, x, upTo(11)[1:]...)
	x = made(t, upTo(13)...)
	wantShape(t, x, "2 / 2 4 / 2 2 2 2 2 3")
	remove(t, x, 40)
	wantShape(t, x, "2 / 2 3 / 3 2 2 2 3")
	wantKeys(t, x, slices.Delete(upTo(13), 3, 4)...)
	add(t, x, 61, 62, 63, 1, 2)
	wantKeys(t, x, 1, 2, 10, 20, 30, 50, 60, 61, 62, 63, 70, 80, 90, 100, 110, 120, 130)
}

func TestNodesAreJoined(t *testing.T) {
	for k, asked := range map[int]string{
		10: "2 / 3 3 / 3 2 2 2 2 3", // with the one on its right
		40: "2 / 3 3 / 3 2 2 2 2 3",
		50: "2 / 3 3 / 2 2 3 2 2 3", // with the one on its left
		80: "2 / 3 3 / 2 2 3 2 2 3",
	} {
		x := made(t, upTo(15)...)
		wantShape(t, x, "3 / 2 2 3 / 2 2 2 2 2 2 3")
		remove(t, x, k)
		wantShape(t, x, asked)
		wantKeys(t, x, slices.Delete(upTo(15), k/10-1, k/10)...)
	}
}

func TestRootOfOneChildGoes(t *testing.T) {
	for k := range 4 {
		x := made(t, upTo(5)...)
		remove(t, x, 50)
		wantShape(t, x, "2 / 2 2")
		remove(t, x, 10*k+10)
		wantShape(t, x, "3")
		wantKeys(t, x, slices.Delete(upTo(4), k, k+1)...)
	}
	x := made(t, upTo(11)...)
	remove(t, x, 110, 100, 90)
	wantShape(t, x, "2 / 2 2 / 2 2 2 2")
	remove(t, x, 80)
	wantShape(t, x, "3 / 2 2 3")
	remove(t, x, 10)
	wantShape(t, x, "2 / 3 3")
	wantKeys(t, x, upTo(7)[1:]...)
	x = made(t, upTo(11)...)
	remove(t, x, 110, 100, 90, 10)
	wantShape(t, x, "3 / 3 2 2")
	wantKeys(t, x, upTo(8)[1:]...)
}

func TestRootLeafBecomesEmpty(t *testing.T) {
	for n := 1; n <= 4; n++ {
		inAllOrders(upTo(n), func(ks []int) {
			x := made(t, upTo(n)...)
			for i, k := range ks {
				remove(t, x, k)
				wantShape(t, x, strconv.Itoa(n-1-i))
			}
			wantKeys(t, x)
			want(t, "Cut", x.Cut(10), false)
			add(t, x, 7)
			wantShape(t, x, "1")
		})
	}
}

func TestTreeIsEmptiedAndFilledAgain(t *testing.T) {
	x := tree.Make[int, string]()
	for _, n := range []int{5, 40, 1, 17} {
		add(t, x, upTo(n)...)
		wantKeys(t, x, upTo(n)...)
		remove(t, x, downFrom(n)...)
		wantShape(t, x, "0")
		wantKeys(t, x)
	}
}

// P9.2 Shape, Make, New

func TestShapeOfAnEmptyTree(t *testing.T) {
	wantShape(t, tree.Make[int, string](), "0")
	wantShape(t, tree.Make[float64, []int](), "0")
	wantShape(t, tree.New(), "0")
}

func TestShapeHasTheRootFirst(t *testing.T) {
	for n, asked := range map[int]string{
		4:  "4",
		6:  "2 / 3 3",
		7:  "2 / 4 3",
		13: "4 / 4 3 3 3",
		14: "2 / 2 3 / 2 3 3 3 3",
		25: "3 / 2 3 3 / 4 3 3 3 3 3 3 3",
	} {
		wantShape(t, made(t, downFrom(n)...), asked)
	}
}

func TestShapeIsSharedWithNothing(t *testing.T) {
	for _, n := range []int{0, 1, 5, 14, 60} {
		x := made(t, upTo(n)...)
		asked := text(x.Shape())
		shape, other := x.Shape(), x.Shape()
		for i := range shape {
			_ = append(shape[i], 99)
			for j := range shape[i] {
				shape[i][j] = 77
			}
			if i+1 < len(shape) && slices.Contains(shape[i+1], 99) {
				t.Errorf("level %d goes on into the next one", i)
			}
			clear(shape[i][:cap(shape[i])])
		}
		clear(shape[:cap(shape)])
		want(t, "another result", text(other), asked)
		wantShape(t, x, asked)
		// Nor does it change with the tree.
		add(t, x, 1, 2, 3, 4, 5)
		want(t, "a result of before", text(other), asked)
		wantKeys(t, x, append([]int{1, 2, 3, 4, 5}, upTo(n)...)...)
	}
}

func TestTreesAreIndependent(t *testing.T) {
	x, y := made(t, upTo(30)...), made(t, upTo(30)...)
	remove(t, x, upTo(12)...)
	wantKeys(t, y, upTo(30)...)
	y.Put(200, "other")
	wantGet(t, x, 200, of(200), true)
	remove(t, y, downFrom(30)...)
	wantKeys(t, x, upTo(30)[12:]...)
	wantKeys(t, made(t))
}

func TestNew(t *testing.T) {
	x := tree.New()
	want(t, "Len", x.Len(), 0)
	wantShape(t, x, "0")
	wantGet(t, x, "a", api.RID{}, false)
	for i, k := range []string{"b", "", "ab", "\xff", "a", "b\x00", "é"} {
		want(t, "Put", x.Put(k, api.RID{Page: i, Cell: 1}), true)
	}
	wantBalanced(t, x)
	// The order is that of bytes.
	wantFrom(t, x, "ab", 4, []string{"ab", "b", "b\x00", "é"}, []api.RID{{Page: 2, Cell: 1}, {Page: 0, Cell: 1}, {Page: 5, Cell: 1}, {Page: 6, Cell: 1}})
	wantFrom(t, x, "f", -1, []string{"é", "\xff"}, []api.RID{{Page: 6, Cell: 1}, {Page: 3, Cell: 1}})
	want(t, "Cut", x.Cut("a\x00"), false)
	want(t, "Cut", x.Cut("a"), true)
	wantGet(t, x, "a", api.RID{}, false)
}
