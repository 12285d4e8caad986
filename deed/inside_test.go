package deed

import (
	"slices"
	"testing"

	"whim/api"
)

// wantKept holds that a stack keeps these numbers, none of those that are gone, and its savepoints.
func wantKept(t *testing.T, s *Stack, lsns []int, saves ...int) {
	t.Helper()
	b := s.body
	if !slices.Equal(b.lsns, lsns) || !slices.Equal(b.saves, saves) {
		t.Errorf("kept: %d, %d; asked for: %d, %d", b.lsns, b.saves, lsns, saves)
	}
	for _, lsn := range b.lsns[len(b.lsns):cap(b.lsns)] {
		if lsn != 0 {
			t.Errorf("%d is kept behind %d", lsn, b.lsns)
		}
	}
}

func TestStackKeepsNothingElse(t *testing.T) {
	s := New()
	wantKept(t, s, nil, unset, unset, unset, unset)
	s.Save(api.MaxSaves)
	s.Save(-1)
	s.Back(0)
	s.Push(5)
	s.Save(1)
	s.Push(7)
	s.Save(3)
	s.Save(0)
	s.Push(9)
	wantKept(t, s, []int{5, 7, 9}, 2, 1, unset, 2)
	s.Back(3)
	wantKept(t, s, []int{5, 7}, 2, 1, unset, 2)
	s.Back(2)
	s.Push(11)
	s.Back(1)
	wantKept(t, s, []int{5}, unset, 1, unset, unset)
}

func TestStackThatIsOnlyAskedKeepsNothing(t *testing.T) {
	var s Stack
	s.All()
	s.Len()
	s.Back(0)
	s.Save(-1)
	s.Save(api.MaxSaves)
	if s.body != nil {
		t.Errorf("kept: %v", s.body)
	}
}
