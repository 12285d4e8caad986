package tree_test

import (
	"cmp"
	"math"
	"slices"
	"strings"
	"testing"

	"whim/tree"
)

// wantOrder puts keys that are given in ascending order, in several orders, and cuts them again.
func wantOrder[K cmp.Ordered](t *testing.T, ks ...K) {
	t.Helper()
	var at []int
	for i := range ks {
		at = append(at, i)
	}
	for step := 1; step < len(ks); step++ {
		x := tree.Make[K, int]()
		for i := range ks {
			// Each key comes at least once, whatever the step is.
			for _, j := range []int{i * step % len(ks), len(ks) - 1 - i} {
				x.Put(ks[j], j)
				wantGet(t, x, ks[j], j, true)
				wantBalanced(t, x)
			}
		}
		for i, k := range ks {
			wantFrom(t, x, k, -1, ks[i:], at[i:])
			wantFrom(t, x, k, 2, ks[i:min(i+2, len(ks))], at[i:min(i+2, len(ks))])
		}
		for i := range ks {
			k := ks[(i+step)%len(ks)]
			want(t, "Cut", x.Cut(k), true)
			want(t, "Cut", x.Cut(k), false)
			wantGet(t, x, k, 0, false)
			wantBalanced(t, x)
		}
		wantShape(t, x, "0")
	}
}

type named string
type count uint16

func TestKeysOfOtherTypes(t *testing.T) {
	wantOrder[int](t, math.MinInt, -1, 0, 1, math.MaxInt)
	wantOrder[int8](t, -128, -127, -1, 0, 1, 2, 126, 127)
	wantOrder[int16](t, math.MinInt16, -1, 0, 1, 255, 256, math.MaxInt16)
	wantOrder[int32](t, math.MinInt32, -1, 0, 65, 1<<16, math.MaxInt32)
	wantOrder[int64](t, math.MinInt64, -1<<32, -1, 0, 1, 1<<32, math.MaxInt64)
	wantOrder[uint](t, 0, 1, 2, math.MaxInt, math.MaxInt+1, math.MaxUint)
	wantOrder[uint8](t, 0, 1, 127, 128, 254, 255)
	wantOrder[uint32](t, 0, 1, math.MaxInt32, math.MaxInt32+1, math.MaxUint32)
	wantOrder[uint64](t, 0, 1, math.MaxInt64, math.MaxInt64+1, math.MaxUint64)
	wantOrder[uintptr](t, 0, 1, 1<<16)
	wantOrder[rune](t, 'A', 'a', 'é', '\U0010ffff')
	wantOrder[count](t, 0, 1, 2, 3, 5, 8, 13, 21, 34, 55, 89, math.MaxUint16)
	wantOrder[named](t, "", "\x00", "\x00\x00", "a", "a\x00", "aa", "b", "\xc3", "\xff", "\xff\xff")
	wantOrder(t, "", strings.Repeat("a", 9), strings.Repeat("a", 5000), strings.Repeat("a", 5000)+"b", "b")
}

func TestAllKeysOfAByte(t *testing.T) {
	x := tree.Make[uint8, uint8]()
	for i := range 256 {
		k := uint8(i * 77)
		want(t, "Put", x.Put(k, k+1), true)
		wantBalanced(t, x)
	}
	want(t, "Len", x.Len(), 256)
	ks, vs := x.From(0, -1)
	for i, k := range ks {
		if int(k) != i || vs[i] != k+1 {
			t.Fatalf("From: %d, %d at %d", k, vs[i], i)
		}
	}
	wantFrom(t, x, 255, -1, []uint8{255}, []uint8{0})
	want(t, "Put", x.Put(77, 7), false)
	for i := range 256 {
		want(t, "Cut", x.Cut(uint8(i*51)), true)
		wantBalanced(t, x)
	}
}

func TestValuesOfAnyType(t *testing.T) {
	l := tree.Make[string, []string]()
	l.Put("a", []string{"x", "y"})
	l.Put("b", nil)
	if v, ok := l.Get("a"); !slices.Equal(v, []string{"x", "y"}) || !ok {
		t.Errorf("Get: %q, %t", v, ok)
	}
	if v, ok := l.Get("b"); v != nil || !ok {
		t.Errorf("Get: %q, %t", v, ok)
	}
	if v, ok := l.Get("c"); v != nil || ok {
		t.Errorf("Get: %q, %t", v, ok)
	}
	f := tree.Make[int, func() int]()
	for k := range 9 {
		f.Put(k, func() int { return -k })
	}
	if _, vs := f.From(6, 2); len(vs) != 2 || vs[0]() != -6 || vs[1]() != -7 {
		t.Errorf("From: %d functions", len(vs))
	}
	if v, ok := f.Get(9); v != nil || ok {
		t.Errorf("Get of a function that is not there: %t", ok)
	}
	s := tree.Make[int, struct{}]()
	want(t, "Put", s.Put(1, struct{}{}), true)
	want(t, "Put", s.Put(1, struct{}{}), false)
	wantGet(t, s, 1, struct{}{}, true)
	p := tree.Make[int, *int]()
	n := 7
	p.Put(1, &n)
	wantGet(t, p, 1, &n, true)
	wantGet(t, p, 2, nil, false)
	e := tree.Make[int, any]()
	e.Put(1, []int{1})
	e.Put(1, nil)
	wantGet(t, e, 1, nil, true)
}

// Floats

func TestFloats(t *testing.T) {
	inf := math.Inf(1)
	wantOrder(t, -inf, -math.MaxFloat64, -1, -math.SmallestNonzeroFloat64, 0, math.SmallestNonzeroFloat64, 0.5, 1, math.MaxFloat64, inf)
	wantOrder[float32](t, float32(-inf), -math.MaxFloat32, -0.5, 0, 0.5, math.MaxFloat32, float32(inf))
}

// wantFloats is wantFrom, in which NaN is equal to itself.
func wantFloats(t *testing.T, x *tree.Tree[float64, int], k float64, ks []float64, vs []int) {
	t.Helper()
	same := func(a, b float64) bool { return cmp.Compare(a, b) == 0 }
	if gotKs, gotVs := x.From(k, -1); !slices.EqualFunc(gotKs, ks, same) || !slices.Equal(gotVs, vs) {
		t.Errorf("From of %v: %v, %v; asked for: %v, %v", k, gotKs, gotVs, ks, vs)
	}
}

func TestNaNIsAKeyLikeOthers(t *testing.T) {
	nan, inf := math.NaN(), math.Inf(1)
	x := tree.Make[float64, int]()
	wantGet(t, x, nan, 0, false)
	want(t, "Cut", x.Cut(nan), false)
	want(t, "Put", x.Put(0, 1), true)
	want(t, "Put", x.Put(nan, 2), true)
	want(t, "Put", x.Put(-inf, 3), true)
	want(t, "Put", x.Put(nan, 4), false)
	want(t, "Put", x.Put(math.Float64frombits(math.Float64bits(nan)^3), 5), false)
	want(t, "Len", x.Len(), 3)
	wantGet(t, x, nan, 5, true)
	wantFloats(t, x, nan, []float64{nan, -inf, 0}, []int{5, 3, 1})
	wantFloats(t, x, -inf, []float64{-inf, 0}, []int{3, 1})
	want(t, "Cut", x.Cut(nan), true)
	want(t, "Cut", x.Cut(nan), false)
	wantFloats(t, x, nan, []float64{-inf, 0}, []int{3, 1})
}

// TestNaNAmongOthers holds a tree against lists of its keys, NaN among them.
func TestNaNAmongOthers(t *testing.T) {
	nan, inf := math.NaN(), math.Inf(1)
	all := []float64{nan, -inf, -2, -1, 0, 1, 2, 3, 4, 5, inf}
	for step := 1; step < len(all); step++ {
		x := tree.Make[float64, int]()
		present := map[int]bool{}
		for i := range 20 * len(all) {
			j := i * step % len(all)
			if i/len(all)%3 == 2 || i%7 == 0 {
				want(t, "Cut", x.Cut(all[j]), present[j])
				delete(present, j)
			} else {
				want(t, "Put", x.Put(all[j], j), !present[j])
				present[j] = true
			}
			wantBalanced(t, x)
			var ks []float64
			var vs []int
			for j, k := range all {
				if present[j] {
					ks, vs = append(ks, k), append(vs, j)
				}
			}
			wantFloats(t, x, nan, ks, vs)
			want(t, "Len", x.Len(), len(ks))
		}
	}
}

func TestZerosAreOneKey(t *testing.T) {
	minus := math.Copysign(0, -1)
	x := tree.Make[float64, int]()
	want(t, "Put", x.Put(minus, 1), true)
	want(t, "Put", x.Put(0, 2), false)
	wantGet(t, x, minus, 2, true)
	wantGet(t, x, 0, 2, true)
	// The key is the one that was present.
	if ks, _ := x.From(0, -1); len(ks) != 1 || !math.Signbit(ks[0]) {
		t.Errorf("From: %v", ks)
	}
	want(t, "Cut", x.Cut(0), true)
	want(t, "Len", x.Len(), 0)
}

// R1

func TestNilTree(t *testing.T) {
	var x *tree.Tree[int, string]
	for range 2 {
		want(t, "Put", x.Put(1, "a"), false)
		wantGet(t, x, 1, "", false)
		want(t, "Cut", x.Cut(1), false)
		wantFrom(t, x, 0, -1, nil, nil)
		wantFrom(t, x, 0, 3, nil, nil)
		want(t, "Len", x.Len(), 0)
		wantShape(t, x, "0")
	}
}

func TestZeroTree(t *testing.T) {
	for range 2 {
		var x tree.Tree[int, string]
		wantGet(t, &x, 1, "", false)
		want(t, "Cut", x.Cut(1), false)
		wantFrom(t, &x, 0, -1, nil, nil)
		want(t, "Len", x.Len(), 0)
		wantShape(t, &x, "0")
		add(t, &x, upTo(20)...)
		wantKeys(t, &x, upTo(20)...)
		remove(t, &x, upTo(20)...)
		wantKeys(t, &x)
	}
}

// TestCopyOfTheStruct: a copy of the struct is the same tree, whichever of the two is changed.
func TestCopyOfTheStruct(t *testing.T) {
	x := tree.Make[int, string]()
	y := *x
	for i, k := range upTo(60) {
		if i%3 == 0 {
			add(t, &y, k)
		} else {
			add(t, x, k)
		}
	}
	wantKeys(t, x, upTo(60)...)
	wantKeys(t, &y, upTo(60)...)
	for i, k := range downFrom(60) {
		if i%2 == 0 {
			remove(t, &y, k)
		} else {
			remove(t, x, k)
		}
		wantShape(t, x, text(y.Shape()))
	}
	wantKeys(t, x)
	wantKeys(t, &y)
}
