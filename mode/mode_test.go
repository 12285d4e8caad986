package mode_test

import (
	"math"
	"math/bits"
	"testing"

	"whim/api"
	"whim/mode"
)

// all are the modes, and wrong what is not one.
var (
	all   = []int{api.ModeNone, api.ModeIS, api.ModeIX, api.ModeS, api.ModeX}
	wrong = noModes()
)

// noModes returns numbers next to the modes, the farthest ones, and those that are a mode once some of their upper bits are lost, or their sign.
func noModes() []int {
	l := []int{-1, 5, math.MinInt, math.MaxInt, 6, 7, -2, -3, -4, -5, math.MinInt + 1, math.MaxInt - 1}
	for s := 3; s < bits.UintSize; s++ {
		for _, m := range all {
			l = append(l, m+1<<s, m-1<<s)
		}
	}
	return l
}

func wantGoes(t *testing.T, held, asked int, yes bool) {
	t.Helper()
	if got := mode.Goes(held, asked); got != yes {
		t.Errorf("Goes(%d, %d): %t; asked for: %t", held, asked, got, yes)
	}
}

func wantJoin(t *testing.T, a, b, least int) {
	t.Helper()
	if got := mode.Join(a, b); got != least {
		t.Errorf("Join(%d, %d): %d; asked for: %d", a, b, got, least)
	}
}

// atLeast tells by the order that the chapter states, a step at a time, whether m is n or n is below it.
func atLeast(m, n int) bool {
	above := map[int][]int{
		api.ModeNone: {api.ModeIS},
		api.ModeIS:   {api.ModeIX, api.ModeS},
		api.ModeIX:   {api.ModeX},
		api.ModeS:    {api.ModeX},
	}
	if m == n {
		return true
	}
	for _, up := range above[n] {
		if atLeast(m, up) {
			return true
		}
	}
	return false
}

// P11.1 Goes

func TestGoesOfEveryTwoModes(t *testing.T) {
	yes := map[[2]int]bool{}
	for _, two := range [][2]int{
		{api.ModeNone, api.ModeNone}, {api.ModeNone, api.ModeIS}, {api.ModeNone, api.ModeIX}, {api.ModeNone, api.ModeS}, {api.ModeNone, api.ModeX},
		{api.ModeIS, api.ModeIS}, {api.ModeIS, api.ModeIX}, {api.ModeIS, api.ModeS},
		{api.ModeIX, api.ModeIX},
		{api.ModeS, api.ModeS},
	} {
		yes[two] = true
		yes[[2]int{two[1], two[0]}] = true
	}
	if len(yes) != 16 {
		t.Fatalf("%d of 25", len(yes))
	}
	for _, held := range all {
		for _, asked := range all {
			wantGoes(t, held, asked, yes[[2]int{held, asked}])
		}
	}
}

func TestGoesOfTheExample(t *testing.T) {
	wantGoes(t, api.ModeS, api.ModeIX, false)
}

func TestGoesOfWhatIsNoMode(t *testing.T) {
	for _, n := range wrong {
		for _, m := range all {
			wantGoes(t, n, m, false)
			wantGoes(t, m, n, false)
		}
		for _, k := range wrong {
			wantGoes(t, n, k, false)
		}
	}
}

// P11.1 Join

func TestJoinOfEveryTwoModes(t *testing.T) {
	const none, is, ix, s, x = api.ModeNone, api.ModeIS, api.ModeIX, api.ModeS, api.ModeX
	for _, c := range [][3]int{
		{none, none, none}, {none, is, is}, {none, ix, ix}, {none, s, s}, {none, x, x},
		{is, none, is}, {is, is, is}, {is, ix, ix}, {is, s, s}, {is, x, x},
		{ix, none, ix}, {ix, is, ix}, {ix, ix, ix}, {ix, s, x}, {ix, x, x},
		{s, none, s}, {s, is, s}, {s, ix, x}, {s, s, s}, {s, x, x},
		{x, none, x}, {x, is, x}, {x, ix, x}, {x, s, x}, {x, x, x},
	} {
		wantJoin(t, c[0], c[1], c[2])
	}
}

func TestJoinOfTheExample(t *testing.T) {
	wantJoin(t, api.ModeIX, api.ModeS, api.ModeX)
}

func TestJoinIsTheLeastThatIsAtLeastBoth(t *testing.T) {
	for _, a := range all {
		for _, b := range all {
			j := mode.Join(a, b)
			if !atLeast(j, a) || !atLeast(j, b) {
				t.Errorf("Join(%d, %d): %d, which is not at least both", a, b, j)
			}
			for _, m := range all {
				if atLeast(m, a) && atLeast(m, b) && !atLeast(m, j) {
					t.Errorf("Join(%d, %d): %d, which is not below %d", a, b, j, m)
				}
				if m != j && atLeast(m, a) && atLeast(m, b) && atLeast(j, m) {
					t.Errorf("Join(%d, %d): %d, and %d is below that", a, b, j, m)
				}
			}
		}
	}
}

func TestJoinOfWhatIsNoMode(t *testing.T) {
	for _, n := range wrong {
		for _, m := range all {
			wantJoin(t, n, m, -1)
			wantJoin(t, m, n, -1)
		}
		for _, k := range wrong {
			wantJoin(t, n, k, -1)
		}
	}
}

// What follows

func TestWhichCameFirstHasNoInfluence(t *testing.T) {
	both := append(append([]int{}, all...), wrong...)
	for _, a := range both {
		for _, b := range both {
			wantGoes(t, a, b, mode.Goes(b, a))
			wantJoin(t, a, b, mode.Join(b, a))
		}
	}
}

// Whoever goes with what one holds in the end goes with all that led to it.
func TestWhoGoesWithAJoinGoesWithBoth(t *testing.T) {
	for _, a := range all {
		for _, b := range all {
			for _, m := range all {
				if mode.Goes(mode.Join(a, b), m) && !(mode.Goes(a, m) && mode.Goes(b, m)) {
					t.Errorf("%d goes with the join of %d and %d, but not with both", m, a, b)
				}
				if mode.Goes(m, mode.Join(a, b)) && !(mode.Goes(m, a) && mode.Goes(m, b)) {
					t.Errorf("the join of %d and %d goes with %d, but not both do", a, b, m)
				}
			}
		}
	}
}

// R4

func TestAnswersDoNotHangOnEarlierCalls(t *testing.T) {
	both := append(append([]int{}, all...), wrong[:4]...)
	for _, a := range both {
		for _, b := range both {
			goes, join := mode.Goes(a, b), mode.Join(a, b)
			for _, c := range both {
				mode.Goes(c, a)
				mode.Join(b, c)
				wantGoes(t, a, b, goes)
				wantJoin(t, a, b, join)
			}
		}
	}
}
