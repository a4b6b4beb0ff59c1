package enter_test

import (
	"slices"
	"testing"
)

// sets are histories' sets: of each key those states.
type sets map[int][]int

// list is a list with a set for each of n states.
func (s sets) list(n int) []uint32 {
	l := make([]uint32, n)
	for h, of := range s {
		l[h] = set(of...)
	}
	return l
}

// remembered are histories' sets, a row of Targets, what these really are, and
// what is entered from the first state.
type remembered struct {
	sets         sets
	l, real, set []int
}

func checkRemembered(t *testing.T, s string, rows []remembered) {
	t.Helper()
	c := drawn(s)
	for _, one := range rows {
		checkCalls(t, c, one.sets.list(len(c.States)), []call{{one.l, one.real, one.set}})
	}
}

// P8.1: each history of ordinary charts as the only target, with an empty set,
// with a set of one state, and with a set of several.

func TestShallowHistory(t *testing.T) {
	checkRemembered(t, rich, []remembered{
		{sets{3: {}}, []int{3}, []int{4}, []int{2, 4}},
		{sets{3: {4}}, []int{3}, []int{4}, []int{2, 4}},
		{sets{3: {5}}, []int{3}, []int{5}, []int{2, 5, 6}},
		{sets{3: {9}}, []int{3}, []int{9}, []int{2, 9}},
		{sets{3: {4, 9}}, []int{3}, []int{4, 9}, []int{2, 4, 9}},
		{sets{3: {9, 5}}, []int{3}, []int{5, 9}, []int{2, 5, 6, 9}},
		{sets{3: {9, 5, 4}}, []int{3}, []int{4, 5, 9}, []int{2, 4, 5, 6, 9}},
		{sets{19: {}}, []int{19}, []int{15}, []int{11, 12, 14, 15, 16, 17, 21}},
		{sets{19: {15}}, []int{19}, []int{15}, []int{11, 12, 14, 15, 16, 17, 21}},
		{sets{19: {16}}, []int{19}, []int{16}, []int{11, 12, 14, 15, 16, 17, 21}},
		{sets{19: {16, 15}}, []int{19}, []int{15, 16}, []int{11, 12, 14, 15, 16, 17, 21}},
	})
	checkRemembered(t, regions, []remembered{
		{sets{2: {12}}, []int{2}, []int{12}, []int{1, 3, 4, 6, 7, 8, 10, 12, 14, 16, 18}},
		{sets{2: {18, 12, 6, 3}}, []int{2}, []int{3, 6, 12, 18}, []int{1, 3, 4, 6, 7, 8, 10, 12, 14, 16, 18}},
		{sets{17: {}}, []int{17}, []int{14}, []int{1, 3, 4, 6, 7, 8, 10, 12, 14, 15, 18}},
		{sets{17: {13}}, []int{17}, []int{13}, []int{1, 3, 4, 6, 7, 8, 10, 12, 13, 18}},
		{sets{17: {14}}, []int{17}, []int{14}, []int{1, 3, 4, 6, 7, 8, 10, 12, 14, 15, 18}},
		{sets{17: {14, 13}}, []int{17}, []int{13, 14}, []int{1, 3, 4, 6, 7, 8, 10, 12, 13, 14, 15, 18}},
	})
}

func TestDeepHistory(t *testing.T) {
	checkRemembered(t, rich, []remembered{
		{sets{8: {}}, []int{8}, []int{6}, []int{2, 5, 6}},
		{sets{8: {7}}, []int{8}, []int{7}, []int{2, 5, 7}},
		{sets{8: {7, 6}}, []int{8}, []int{6, 7}, []int{2, 5, 6, 7}},
		{sets{10: {}}, []int{10}, []int{7}, []int{2, 5, 7}},
		{sets{10: {4}}, []int{10}, []int{4}, []int{2, 4}},
		{sets{10: {6}}, []int{10}, []int{6}, []int{2, 5, 6}},
		{sets{10: {9, 7}}, []int{10}, []int{7, 9}, []int{2, 5, 7, 9}},
		{sets{20: {}}, []int{20}, []int{17}, []int{11, 12, 14, 15, 16, 17, 21}},
		{sets{20: {13}}, []int{20}, []int{13}, []int{11, 12, 13, 21}},
		{sets{20: {18}}, []int{20}, []int{18}, []int{11, 12, 14, 15, 16, 18, 21}},
		{sets{20: {21}}, []int{20}, []int{21}, []int{11, 12, 13, 21}},
		{sets{20: {21, 13}}, []int{20}, []int{13, 21}, []int{11, 12, 13, 21}},
		{sets{20: {21, 18, 15}}, []int{20}, []int{15, 18, 21}, []int{11, 12, 14, 15, 16, 18, 21}},
	})
	checkRemembered(t, regions, []remembered{
		{sets{11: {}}, []int{11}, []int{9}, []int{1, 3, 4, 6, 7, 8, 9, 12, 14, 16, 18}},
		{sets{11: {7}}, []int{11}, []int{7}, []int{1, 3, 4, 6, 7, 8, 10, 12, 14, 16, 18}},
		{sets{11: {10}}, []int{11}, []int{10}, []int{1, 3, 4, 6, 7, 8, 10, 12, 14, 16, 18}},
		{sets{11: {9, 7}}, []int{11}, []int{7, 9}, []int{1, 3, 4, 6, 7, 8, 9, 12, 14, 16, 18}},
		{sets{11: {10, 9}}, []int{11}, []int{9, 10}, []int{1, 3, 4, 6, 7, 8, 9, 10, 12, 14, 16, 18}},
	})
}

// What is below each that a history stands for is added ahead of what is above
// any of them: else a Parallel's child would get what it has by default ahead of
// what it had.

func TestHistoryAddsWhatIsBelowFirst(t *testing.T) {
	checkRemembered(t, rich, []remembered{
		{sets{20: {15, 18}}, []int{20}, []int{15, 18}, []int{11, 12, 14, 15, 16, 18, 21}},
		{sets{20: {15}}, []int{20}, []int{15}, []int{11, 12, 14, 15, 16, 17, 21}},
	})
	checkRemembered(t, "C(A C(P(C(A A) C(A A) C(A A)) D))", []remembered{
		{sets{13: {6, 9, 12}}, []int{13}, []int{6, 9, 12}, []int{2, 3, 4, 6, 7, 9, 10, 12}},
		{sets{13: {5, 9, 11}}, []int{13}, []int{5, 9, 11}, []int{2, 3, 4, 5, 7, 9, 10, 11}},
		{sets{13: {9}}, []int{13}, []int{9}, []int{2, 3, 4, 5, 7, 9, 10, 11}},
		{sets{}, []int{13}, []int{3}, []int{2, 3, 4, 5, 7, 8, 10, 11}},
	})
}

// Beside other targets: a history's part is added whole, in its turn, up to its
// Parent, ahead of what is below the next target.

func TestHistoryBesideOthers(t *testing.T) {
	checkRemembered(t, regions, []remembered{
		{sets{11: {7, 9}}, []int{11, 5}, []int{7, 9, 5}, []int{1, 3, 5, 6, 7, 8, 9, 12, 14, 16, 18}},
		{sets{11: {7, 9}}, []int{5, 11}, []int{5, 7, 9}, []int{1, 3, 5, 6, 7, 8, 9, 12, 14, 16, 18}},
		{sets{17: {13}}, []int{5, 17}, []int{5, 13}, []int{1, 3, 5, 6, 7, 8, 10, 12, 13, 18}},
		{sets{17: {13}}, []int{17, 5, 9}, []int{13, 5, 9}, []int{1, 3, 5, 6, 7, 8, 9, 12, 13, 18}},
		{sets{17: {13}, 11: {7, 10}}, []int{17, 11}, []int{13, 7, 10}, []int{1, 3, 4, 6, 7, 8, 10, 12, 13, 18}},
		{sets{17: {13}, 11: {7, 10}, 2: {18}}, []int{11, 4, 17}, []int{7, 10, 4, 13}, []int{1, 3, 4, 6, 7, 8, 10, 12, 13, 18}},
		{sets{}, []int{17, 11, 5}, []int{14, 9, 5}, []int{1, 3, 5, 6, 7, 8, 9, 12, 14, 15, 18}},
	})
	checkRemembered(t, rich, []remembered{
		{sets{}, []int{19, 21}, []int{15, 21}, []int{11, 12, 14, 15, 16, 17, 21}},
		{sets{20: {15}}, []int{20, 18}, []int{15, 18}, []int{11, 12, 14, 15, 16, 17, 18, 21}},
		{sets{20: {15}}, []int{18, 20}, []int{18, 15}, []int{11, 12, 14, 15, 16, 18, 21}},
		{sets{20: {13}}, []int{20, 14}, []int{13, 14}, []int{11, 12, 13, 14, 15, 16, 17, 21}},
		{sets{3: {9}, 10: {6}}, []int{3, 10}, []int{9, 6}, []int{2, 5, 6, 9}},
		{sets{3: {5}, 10: {7}}, []int{10, 3}, []int{7, 5}, []int{2, 5, 6, 7}},
		{sets{8: {7}, 20: {18, 15}}, []int{8, 22, 20}, []int{7, 22, 15, 18}, []int{2, 5, 7, 11, 12, 14, 15, 16, 18, 21, 22}},
	})
}

// Each state once, where it comes first: a target twice, a state and a history
// that stands for it, and two histories that stand for one.

func TestRealHasEachStateOnce(t *testing.T) {
	checkRemembered(t, rich, []remembered{
		{sets{}, []int{5, 5}, []int{5}, []int{2, 5, 6}},
		{sets{}, []int{6, 22, 6, 22, 6}, []int{6, 22}, []int{2, 5, 6, 22}},
		{sets{}, []int{3, 3}, []int{4}, []int{2, 4}},
		{sets{}, []int{3, 4}, []int{4}, []int{2, 4}},
		{sets{}, []int{4, 3}, []int{4}, []int{2, 4}},
		{sets{}, []int{22, 3, 1, 4, 22}, []int{22, 4, 1}, []int{1, 2, 4, 22}},
		{sets{3: {4, 9}}, []int{9, 3}, []int{9, 4}, []int{2, 4, 9}},
		{sets{3: {4, 9}}, []int{3, 9}, []int{4, 9}, []int{2, 4, 9}},
		{sets{3: {4, 9}, 10: {9, 6}}, []int{10, 3}, []int{6, 9, 4}, []int{2, 4, 5, 6, 9}},
		{sets{3: {4, 9}, 10: {9, 6}}, []int{3, 10, 3}, []int{4, 9, 6}, []int{2, 4, 5, 6, 9}},
		{sets{20: {18, 15}}, []int{18, 20}, []int{18, 15}, []int{11, 12, 14, 15, 16, 18, 21}},
		{sets{20: {18, 15}}, []int{21, 20, 15, 21}, []int{21, 15, 18}, []int{11, 12, 14, 15, 16, 18, 21}},
	})
	checkRemembered(t, regions, []remembered{
		{sets{11: {7, 9}}, []int{18, 11, 5, 11, 18}, []int{18, 7, 9, 5}, []int{1, 3, 5, 6, 7, 8, 9, 12, 14, 16, 18}},
		{sets{}, []int{9, 11}, []int{9}, []int{1, 3, 4, 6, 7, 8, 9, 12, 14, 16, 18}},
		{sets{}, []int{11, 9}, []int{9}, []int{1, 3, 4, 6, 7, 8, 9, 12, 14, 16, 18}},
		{sets{11: {10, 9}}, []int{10, 11}, []int{10, 9}, []int{1, 3, 4, 6, 7, 8, 9, 10, 12, 14, 16, 18}},
	})
}

// A list that is too short has empty sets behind its end; what it has for states
// that aren't there counts for nothing.

func TestListsOfAnyLength(t *testing.T) {
	one := planted(t, drawn(rich))
	for _, h := range []struct {
		h, initial, kept int
		byInitial, bySet []int
	}{
		{3, 4, 9, []int{2, 4}, []int{2, 9}},
		{8, 6, 7, []int{2, 5, 6}, []int{2, 5, 7}},
		{10, 7, 4, []int{2, 5, 7}, []int{2, 4}},
		{19, 15, 16, []int{11, 12, 14, 15, 16, 17, 21}, []int{11, 12, 14, 15, 16, 17, 21}},
		{20, 17, 13, []int{11, 12, 14, 15, 16, 17, 21}, []int{11, 12, 13, 21}},
	} {
		full := slices.Repeat([]uint32{set(h.kept)}, 40)
		for n := range full {
			real, entered := h.initial, h.byInitial
			if n > h.h {
				real, entered = h.kept, h.bySet
			}
			hist := full[:n:n]
			checkReal(t, one, hist, []int{h.h}, real)
			checkFromOutside(t, one, hist, []int{h.h}, entered...)
			checkReal(t, one, full[:n], []int{h.h}, real) // what is behind its end isn't its own
		}
		for _, hist := range [][]uint32{nil, {}, make([]uint32, h.h), make([]uint32, h.h+1), make([]uint32, 23), make([]uint32, 99)} {
			checkReal(t, one, hist, []int{h.h}, h.initial)
			checkFromOutside(t, one, hist, []int{h.h}, h.byInitial...)
		}
	}
}

// The sets of other histories, and of states that are no histories, change
// nothing.

func TestSetsOfOtherStates(t *testing.T) {
	c := drawn(rich)
	one := planted(t, c)
	for s := range c.States {
		for _, other := range []uint32{1<<32 - 1, 1<<23 - 1, set(1), set(22), set(0), set(s), set(31)} {
			hist := slices.Repeat([]uint32{other}, 23)
			hist[s] = 0
			var bare []uint32
			if !isHistory(c.States[s].Kind) {
				hist[s] = other
			}
			for from := -1; from < 23; from++ {
				checkSameAs(t, one, hist, bare, from, []int{s})
				checkSameAs(t, one, hist, bare, from, []int{s, s})
			}
		}
	}
	hist := slices.Repeat([]uint32{1<<32 - 1}, 23)
	hist[20] = set(15, 18)
	checkReal(t, one, hist, []int{20, 21, 20}, 15, 18, 21)
	checkFromOutside(t, one, hist, []int{20, 21, 20}, 11, 12, 14, 15, 16, 18, 21)
}

// A Compound's Initial, and what a history stands for, are no histories: the
// default never asks what was.

func TestDefaultAsksNoHistory(t *testing.T) {
	hist := slices.Repeat([]uint32{set(9, 7, 18)}, 23)
	one := planted(t, drawn(rich))
	checkFromOutside(t, one, hist, []int{2}, 2, 4)
	checkFromOutside(t, one, hist, []int{5}, 2, 5, 6)
	checkFromOutside(t, one, hist, []int{14}, 11, 12, 14, 15, 16, 17, 21)
	checkFromOutside(t, one, hist, []int{11}, 11, 12, 13, 21)
}
