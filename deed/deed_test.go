package deed_test

import (
	"math"
	"slices"
	"testing"

	"whim/api"
	"whim/deed"
)

// The face, as the chapter lists it.
var (
	_ func() *deed.Stack                                = deed.New
	_ func(s *deed.Stack, lsn int)                      = (*deed.Stack).Push
	_ func(s *deed.Stack, n int) (may bool)             = (*deed.Stack).Save
	_ func(s *deed.Stack, n int) (lsns []int, are bool) = (*deed.Stack).Back
	_ func(s *deed.Stack) (lsns []int)                  = (*deed.Stack).All
	_ func(s *deed.Stack) (n int)                       = (*deed.Stack).Len
)

// wrong are numbers of which there is no savepoint.
var wrong = []int{-1, -2, -api.MaxSaves, math.MinInt, math.MinInt + 1, -1 << 32, -1<<32 + 1, api.MaxSaves, api.MaxSaves + 1, 2 * api.MaxSaves, 255, 256, 1 << 31, 1 << 32, 1<<32 + 1, math.MaxInt - 1, math.MaxInt}

// given returns a stack of these numbers, the first one pushed first.
func given(lsns ...int) *deed.Stack {
	s := deed.New()
	for _, lsn := range lsns {
		s.Push(lsn)
	}
	return s
}

// wantAll holds that a stack has these numbers, the newest first; and that asking changes nothing.
func wantAll(t *testing.T, s *deed.Stack, lsns ...int) {
	t.Helper()
	for range 2 {
		if got := s.All(); !slices.Equal(got, lsns) {
			t.Errorf("All: %d; asked for: %d", got, lsns)
		}
		if got := s.Len(); got != len(lsns) {
			t.Errorf("Len: %d; asked for: %d", got, len(lsns))
		}
	}
}

// wantSave holds that savepoint n is set, and that this changes no number.
func wantSave(t *testing.T, s *deed.Stack, n int) {
	t.Helper()
	before := s.All()
	if !s.Save(n) {
		t.Errorf("Save(%d): false", n)
	}
	wantAll(t, s, before...)
}

// wantBack holds that Back removes these numbers, the newest first, and no others.
func wantBack(t *testing.T, s *deed.Stack, n int, lsns ...int) {
	t.Helper()
	before := s.All()
	l, ok := s.Back(n)
	if !ok || !slices.Equal(l, lsns) {
		t.Errorf("Back(%d): %d, %t; asked for: %d", n, l, ok, lsns)
		return
	}
	wantAll(t, s, before[len(lsns):]...)
}

// wantNoBack holds that there are no such savepoints, and that asking for them changes nothing and hands out no list.
func wantNoBack(t *testing.T, s *deed.Stack, of ...int) {
	t.Helper()
	before := s.All()
	for _, n := range of {
		if l, ok := s.Back(n); ok || l != nil {
			t.Errorf("Back(%d): %d, %t; asked for: nil, false", n, l, ok)
		}
		wantAll(t, s, before...)
	}
}

// P14.1: the example, and a new stack

func TestExample(t *testing.T) {
	s := deed.New()
	s.Push(5)
	wantSave(t, s, 0)
	s.Push(7)
	wantSave(t, s, 1)
	s.Push(9)
	wantBack(t, s, 1, 9)
	wantAll(t, s, 7, 5)
}

func TestNewHasNothing(t *testing.T) {
	s := deed.New()
	wantAll(t, s)
	wantNoBack(t, s, 0, 1, 2, 3)
	wantNoBack(t, s, wrong...)
}

// P14.1 Push, Len and All

func TestPush(t *testing.T) {
	for _, l := range []struct{ pushed, all []int }{
		{[]int{5}, []int{5}},
		{[]int{0}, []int{0}},
		{[]int{5, 7}, []int{7, 5}},
		{[]int{7, 5}, []int{5, 7}}, // in the order of Push, not of the numbers
		{[]int{5, 7, 6}, []int{6, 7, 5}},
		// The same one several times.
		{[]int{5, 5}, []int{5, 5}},
		{[]int{0, 0, 0}, []int{0, 0, 0}},
		{[]int{5, 7, 5}, []int{5, 7, 5}},
		{[]int{5, 5, 7}, []int{7, 5, 5}},
		// Negative numbers, and the farthest ones.
		{[]int{-1}, []int{-1}},
		{[]int{-1, -1, 1, 0}, []int{0, 1, -1, -1}},
		{[]int{math.MinInt}, []int{math.MinInt}},
		{[]int{math.MaxInt}, []int{math.MaxInt}},
		{[]int{math.MinInt, math.MaxInt, -2, 1 << 32, -1 << 32}, []int{-1 << 32, 1 << 32, -2, math.MaxInt, math.MinInt}},
	} {
		s := deed.New()
		for i, lsn := range l.pushed {
			s.Push(lsn)
			wantAll(t, s, l.all[len(l.all)-1-i:]...)
		}
	}
}

func TestPushOfMany(t *testing.T) {
	const n = 1 << 16
	s := deed.New()
	for i := range n {
		s.Push(i * i)
		if s.Len() != i+1 {
			t.Fatalf("Len: %d after %d times Push", s.Len(), i+1)
		}
	}
	all := s.All()
	if len(all) != n {
		t.Fatalf("All: %d numbers; asked for: %d", len(all), n)
	}
	for i, lsn := range all {
		if from := n - 1 - i; lsn != from*from {
			t.Fatalf("number %d from above: %d", i, lsn)
		}
	}
	wantNoBack(t, s, 0)
}

// P14.1 Save

func TestSaveOfEveryNumber(t *testing.T) {
	for n := -20; n <= 20; n++ {
		s := given(5, 7)
		may := n >= 0 && n < api.MaxSaves
		for range 2 {
			if got := s.Save(n); got != may {
				t.Errorf("Save(%d): %t", n, got)
			}
		}
		wantAll(t, s, 7, 5)
		s.Push(9)
		for other := range api.MaxSaves {
			if other != n {
				wantNoBack(t, s, other)
			}
		}
		if may {
			wantBack(t, s, n, 9)
		} else {
			wantNoBack(t, s, n)
		}
	}
}

func TestSaveOfWrongNumbers(t *testing.T) {
	s := given(5)
	wantSave(t, s, 0)
	s.Push(7)
	wantSave(t, s, 3)
	s.Push(9)
	for _, n := range wrong {
		if s.Save(n) {
			t.Errorf("Save(%d): true", n)
		}
		wantAll(t, s, 9, 7, 5)
		wantNoBack(t, s, n)
	}
	// No savepoint was set or moved by that.
	wantNoBack(t, s, 1, 2)
	wantBack(t, s, 3, 9)
	wantBack(t, s, 0, 7)
}

func TestSavepointsAreApart(t *testing.T) {
	s := deed.New()
	for n := range api.MaxSaves {
		wantSave(t, s, n)
		s.Push(n)
	}
	for n := api.MaxSaves - 1; n >= 0; n-- {
		wantBack(t, s, n, n)
	}
	// Against the order of their numbers.
	s = deed.New()
	for n := api.MaxSaves - 1; n >= 0; n-- {
		wantSave(t, s, n)
		s.Push(n)
	}
	for n := range api.MaxSaves {
		wantBack(t, s, n, n)
	}
}

func TestSavepointSetAgainHigher(t *testing.T) {
	for n := range api.MaxSaves {
		s := given(5)
		wantSave(t, s, n)
		s.Push(7)
		wantSave(t, s, n)
		s.Push(9)
		wantSave(t, s, n) // several times, too
		s.Push(11)
		wantBack(t, s, n, 11)
		wantBack(t, s, n)
		wantAll(t, s, 9, 7, 5)
	}
}

func TestSavepointSetAgainLower(t *testing.T) {
	for n := range api.MaxSaves {
		older := (n + 1) % api.MaxSaves
		s := given(5)
		wantSave(t, s, older)
		s.Push(7)
		s.Push(9)
		wantSave(t, s, n)
		wantBack(t, s, older, 9, 7)
		s.Push(11)
		wantSave(t, s, n) // at 2, where it was at 3 and is gone
		s.Push(13)
		s.Push(15)
		s.Push(17)
		wantBack(t, s, n, 17, 15, 13)
		wantBack(t, s, older, 11)
	}
}

func TestSavepointSetAgainAtTheSameHeight(t *testing.T) {
	s := given(5)
	wantSave(t, s, 2)
	wantSave(t, s, 2)
	s.Push(7)
	wantBack(t, s, 2, 7)
	wantSave(t, s, 2)
	wantBack(t, s, 2)
	s.Push(9)
	wantBack(t, s, 2, 9)
	wantAll(t, s, 5)
}

func TestSavepointSetAgainLeavesTheOthers(t *testing.T) {
	s := deed.New()
	for n := range api.MaxSaves {
		wantSave(t, s, n)
		s.Push(n + 10)
	}
	wantSave(t, s, 1) // above the others
	s.Push(14)
	wantBack(t, s, 1, 14)
	wantBack(t, s, 3, 13)
	wantNoBack(t, s, 1)
	wantBack(t, s, 2, 12)
	wantBack(t, s, 0, 11, 10)
}

// P14.1 Back

func TestBackToASavepointThatWasNeverSet(t *testing.T) {
	for set := range api.MaxSaves {
		s := given(5, 7)
		wantNoBack(t, s, 0, 1, 2, 3)
		wantSave(t, s, set)
		s.Push(9)
		for n := range api.MaxSaves {
			if n != set {
				wantNoBack(t, s, n)
			}
		}
		wantNoBack(t, s, wrong...)
		wantBack(t, s, set, 9) // still where it was
	}
}

func TestBackToHeightZero(t *testing.T) {
	for n := range api.MaxSaves {
		s := deed.New()
		wantSave(t, s, n)
		wantBack(t, s, n)
		s.Push(5)
		wantBack(t, s, n, 5)
		s.Push(7)
		s.Push(5)
		s.Push(9)
		wantBack(t, s, n, 9, 5, 7)
		wantBack(t, s, n)
		wantAll(t, s)
	}
}

func TestBackWithNothingPushedSince(t *testing.T) {
	for height := range 6 {
		s := deed.New()
		var all []int
		for i := range height {
			s.Push(i)
			all = slices.Insert(all, 0, i)
		}
		wantSave(t, s, 1)
		wantBack(t, s, 1)
		wantAll(t, s, all...)
		wantNoBack(t, s, 0, 2, 3)
	}
}

func TestBackTwice(t *testing.T) {
	s := given(5)
	wantSave(t, s, 3)
	s.Push(7)
	s.Push(9)
	wantBack(t, s, 3, 9, 7)
	for range 3 {
		wantBack(t, s, 3)
	}
	s.Push(-7)
	s.Push(-9)
	s.Push(-9)
	wantBack(t, s, 3, -9, -9, -7)
	wantAll(t, s, 5)
}

func TestBackToAnOlderOneAheadOfANewerOne(t *testing.T) {
	for old := range api.MaxSaves {
		for newer := range api.MaxSaves {
			if newer == old {
				continue
			}
			// The newer one stands higher: it is gone.
			s := given(5)
			wantSave(t, s, old)
			s.Push(7)
			wantSave(t, s, newer)
			s.Push(9)
			wantBack(t, s, old, 9, 7)
			wantNoBack(t, s, newer)
			// Also when there are as many as it stood at, or more.
			s.Push(11)
			wantNoBack(t, s, newer)
			s.Push(13)
			wantNoBack(t, s, newer)
			wantBack(t, s, old, 13, 11)

			// It stands at the same height: it stays.
			s = given(5)
			wantSave(t, s, old)
			wantSave(t, s, newer)
			s.Push(7)
			s.Push(9)
			wantBack(t, s, old, 9, 7)
			s.Push(11)
			wantBack(t, s, newer, 11)
			wantBack(t, s, newer)
			wantBack(t, s, old)
			wantAll(t, s, 5)
		}
	}
}

func TestBackToANewerOneAheadOfAnOlderOne(t *testing.T) {
	for old := range api.MaxSaves {
		for newer := range api.MaxSaves {
			if newer == old {
				continue
			}
			s := given(5)
			wantSave(t, s, old)
			s.Push(7)
			s.Push(9)
			wantSave(t, s, newer)
			s.Push(11)
			wantBack(t, s, newer, 11)
			s.Push(13)
			wantBack(t, s, old, 13, 9, 7)
			wantNoBack(t, s, newer)
			wantBack(t, s, old)
			wantAll(t, s, 5)
		}
	}
}

func TestBackOverNothingKeepsWhatStandsThere(t *testing.T) {
	// The older one stands lower, the newer one is set again at the height of the first.
	s := given(5)
	wantSave(t, s, 0)
	s.Push(7)
	wantSave(t, s, 1)
	wantBack(t, s, 1)
	wantSave(t, s, 2)
	wantBack(t, s, 1)
	wantBack(t, s, 2)
	wantBack(t, s, 0, 7)
	wantNoBack(t, s, 1, 2)
	// Back over one number only takes those with it that stand above.
	wantSave(t, s, 1)
	s.Push(9)
	wantSave(t, s, 2)
	s.Push(11)
	wantSave(t, s, 3)
	wantBack(t, s, 2, 11)
	wantNoBack(t, s, 3)
	wantBack(t, s, 2)
	wantBack(t, s, 1, 9)
	wantNoBack(t, s, 2, 3)
	wantBack(t, s, 0)
}

func TestSavepointsAtHeightZero(t *testing.T) {
	s := deed.New()
	wantSave(t, s, 0)
	wantSave(t, s, 3)
	s.Push(5)
	wantSave(t, s, 1)
	wantBack(t, s, 3, 5)
	wantNoBack(t, s, 1, 2)
	wantBack(t, s, 0)
	s.Push(7)
	wantBack(t, s, 0, 7)
	wantBack(t, s, 3)
	wantAll(t, s)
}

func TestPushSaveAndBackBehindABack(t *testing.T) {
	s := given(1, 2)
	wantSave(t, s, 0)
	s.Push(3)
	s.Push(4)
	wantSave(t, s, 1)
	s.Push(5)
	wantBack(t, s, 0, 5, 4, 3)
	s.Push(6)
	wantSave(t, s, 1)
	s.Push(7)
	wantSave(t, s, 2)
	s.Push(8)
	wantBack(t, s, 2, 8)
	s.Push(9)
	wantBack(t, s, 1, 9, 7)
	wantNoBack(t, s, 2, 3)
	wantSave(t, s, 0) // above its old height, at that of 1
	s.Push(10)
	wantBack(t, s, 1, 10)
	wantBack(t, s, 0)
	wantAll(t, s, 6, 2, 1)
}

// What follows: after Back(n) there are as many as at Save(n).

func TestAsManyAsAtSave(t *testing.T) {
	for height := range 9 {
		for more := range 9 {
			s := deed.New()
			for i := range height {
				s.Push(i)
			}
			wantSave(t, s, 1)
			for range 2 {
				for i := range more {
					s.Push(-i)
				}
				if l, ok := s.Back(1); !ok || len(l) != more || s.Len() != height {
					t.Errorf("Back over %d to %d: %d, %t, and %d are left", more, height, l, ok, s.Len())
				}
			}
		}
	}
}

// R2 is what wantNoBack holds. A nil stack, and others

func TestNilStack(t *testing.T) {
	var s *deed.Stack
	for _, n := range append([]int{0, 1, 2, 3}, wrong...) {
		s.Push(n)
		if s.Save(n) {
			t.Errorf("Save(%d): true", n)
		}
		wantAll(t, s)
		wantNoBack(t, s, n)
	}
	if s.All() != nil {
		t.Errorf("All: %d, and not nil", s.All())
	}
}

func TestStacksThatNewDidNotMake(t *testing.T) {
	var s deed.Stack
	wantAll(t, &s)
	wantNoBack(t, &s, 0, 1, 2, 3)
	wantNoBack(t, &s, wrong...)
	for _, n := range wrong {
		if s.Save(n) {
			t.Errorf("Save(%d): true", n)
		}
	}
	s.Push(5)
	wantNoBack(t, &s, 0, 1, 2, 3)
	wantSave(t, &s, 0)
	s.Push(7)
	wantBack(t, &s, 0, 7)
	wantAll(t, &s, 5)

	var h deed.Stack
	wantSave(t, &h, 3)
	wantNoBack(t, &h, 0, 1, 2)
	h.Push(5)
	wantBack(t, &h, 3, 5)
	wantAll(t, &h)
}

func TestCopyOfAStackIsTheSameStack(t *testing.T) {
	s := deed.New()
	h := *s
	s.Push(5)
	h.Push(7)
	wantAll(t, s, 7, 5)
	wantAll(t, &h, 7, 5)
	wantSave(t, s, 0)
	h.Push(9)
	wantBack(t, &h, 0, 9)
	s.Push(11)
	wantAll(t, &h, 11, 7, 5)
}

func TestStacksAreApart(t *testing.T) {
	s, h := deed.New(), deed.New()
	s.Push(5)
	wantSave(t, s, 0)
	s.Push(7)
	wantAll(t, h)
	wantNoBack(t, h, 0)
	h.Push(-5)
	h.Push(-7)
	wantSave(t, h, 0)
	h.Push(-9)
	wantBack(t, s, 0, 7)
	wantAll(t, h, -9, -7, -5)
	s.Push(11)
	wantBack(t, h, 0, -9)
	wantSave(t, h, 1)
	wantNoBack(t, s, 1)
	wantAll(t, s, 11, 5)
	wantAll(t, h, -7, -5)
}

// R3

// spoil changes all of a list, and what is behind its end.
func spoil(l []int) {
	l = l[:cap(l)]
	for i := range l {
		l[i] = 77
	}
}

// TestListsAreTheCallersOwn tries stacks of many sizes, as the room behind the numbers isn't the same for all of them.
func TestListsAreTheCallersOwn(t *testing.T) {
	for height := range 70 {
		s := deed.New()
		for i := range height {
			s.Push(i)
		}
		want := s.All()
		one := s.All()
		spoil(one)
		wantAll(t, s, want...)
		wantSave(t, s, 0)
		for i := range 5 {
			s.Push(-i)
		}
		back, ok := s.Back(0)
		if !ok || !slices.Equal(back, []int{-4, -3, -2, -1, 0}) {
			t.Fatalf("Back(0): %d, %t", back, ok)
		}
		spoil(back)
		wantAll(t, s, want...)
		// Of no numbers, too.
		none, ok := s.Back(0)
		if !ok {
			t.Fatalf("Back(0): false")
		}
		s.Push(33)
		spoil(none)
		wantBack(t, s, 0, 33)
		wantAll(t, s, want...)
	}
}

func TestListsDoNotFollowTheStack(t *testing.T) {
	for height := range 70 {
		s := deed.New()
		for i := range height {
			s.Push(i)
		}
		wantSave(t, s, 0)
		s.Push(101)
		s.Push(102)
		all := s.All()
		before := slices.Clone(all)
		back, _ := s.Back(0)
		for i := range 70 {
			s.Push(1000 + i)
		}
		s.Back(0)
		s.Push(2000)
		if !slices.Equal(all, before) || !slices.Equal(back, []int{102, 101}) {
			t.Errorf("lists changed with the stack: %d, %d", all, back)
		}
		spoil(back)
		if !slices.Equal(all, before) {
			t.Errorf("a list changed with another one: %d", all)
		}
	}
}
