package enter_test

import (
	"testing"
)

// P8.1: what is above is added up to from, but without it, and without what it
// has besides.

func TestUpToAnotherState(t *testing.T) {
	one := planted(t, drawn(rich))
	for _, ask := range []struct {
		from   int
		l, set []int
	}{
		{2, []int{4}, []int{4}},
		{2, []int{7}, []int{5, 7}},
		{2, []int{3}, []int{4}},
		{2, []int{10}, []int{5, 7}},
		{5, []int{7}, []int{7}},
		{5, []int{8}, []int{6}},
		{11, []int{13}, []int{12, 13}},
		{11, []int{21}, []int{21}},
		{11, []int{18}, []int{12, 14, 15, 16, 18}},
		{12, []int{18}, []int{14, 15, 16, 18}},
		{12, []int{14}, []int{14, 15, 16, 17}},
		{12, []int{15, 18}, []int{14, 15, 16, 18}},
		{12, []int{13, 18}, []int{13, 14, 15, 16, 18}},
		{12, []int{19}, []int{14, 15, 16, 17}},
		{14, []int{18}, []int{16, 18}},
		{14, []int{15}, []int{15}},
		{14, []int{19}, []int{15}},
		{16, []int{18}, []int{18}},
		{16, []int{17, 18}, []int{17, 18}},
	} {
		checkSet(t, one, nil, ask.from, ask.l, ask.set...)
	}
	one = planted(t, drawn(regions))
	checkSet(t, one, nil, 1, []int{9}, 6, 7, 8, 9)
	checkSet(t, one, nil, 1, []int{5, 16}, 3, 5, 12, 14, 16)
	checkSet(t, one, nil, 6, []int{9}, 8, 9)
	checkSet(t, one, nil, 6, []int{8}, 8, 10)
	checkSet(t, one, nil, 8, []int{9}, 9)
	checkSet(t, one, nil, 12, []int{12}, 0, 1, 3, 4, 6, 7, 8, 10, 12, 14, 16, 18)
	checkSet(t, one, nil, 12, []int{16}, 14, 16)
	checkSet(t, one, nil, 12, []int{17}, 14, 15)
	checkSet(t, one, nil, 14, []int{16}, 16)
}

// What is above one that isn't in from is added up to the first state, with it.

func TestUpToAStateThatTargetsAreNotIn(t *testing.T) {
	one := planted(t, drawn(rich))
	for _, from := range []int{1, 4, 6, 7, 9, 13, 14, 15, 16, 17, 18, 19, 20, 21, 22} {
		checkSet(t, one, nil, from, []int{5}, 0, 2, 5, 6)
	}
	for _, from := range []int{5, 6, 7, 8} { // itself, and what is in it
		checkSet(t, one, nil, from, []int{5}, 0, 2, 5, 6)
	}
	for _, from := range []int{1, 2, 5, 6, 13, 15, 17, 18, 19, 20, 21, 22} {
		checkSet(t, one, nil, from, []int{18}, 0, 11, 12, 14, 15, 16, 18, 21)
	}
	checkSet(t, one, nil, 1, []int{1}, 0, 1)
	checkSet(t, one, nil, 21, []int{21}, 0, 11, 12, 13, 21)
	checkSet(t, one, nil, 20, []int{21}, 0, 11, 12, 13, 21) // nothing is in a history
}

// Where some are in from, and others aren't, each goes up as far as it does: what
// is between from and a Parallel further above isn't added, nor is anything else
// in that Parallel's child, as that has something.

func TestUpToAStateThatSomeAreIn(t *testing.T) {
	one := planted(t, drawn(rich))
	checkSet(t, one, nil, 2, []int{7, 1}, 0, 1, 5, 7)
	checkSet(t, one, nil, 2, []int{1, 7}, 0, 1, 5, 7)
	checkSet(t, one, nil, 5, []int{7, 4}, 0, 2, 4, 7)
	checkSet(t, one, nil, 16, []int{18, 21}, 0, 11, 18, 21)
	checkSet(t, one, nil, 16, []int{18, 15}, 0, 11, 12, 14, 15, 18, 21)
	checkSet(t, one, nil, 12, []int{18, 21}, 0, 11, 14, 15, 16, 18, 21)
	one = planted(t, drawn(regions))
	checkSet(t, one, nil, 3, []int{5, 9}, 0, 1, 5, 6, 7, 8, 9, 12, 14, 16, 18)
	checkSet(t, one, nil, 8, []int{9, 5}, 0, 1, 3, 5, 9, 12, 14, 16, 18)
}

// A history's own part goes up to its Parent, however near from is.

func TestHistoryGoesUpToItsParent(t *testing.T) {
	one := planted(t, drawn(rich))
	hist := make([]uint32, 23)
	hist[20] = set(18)
	for _, from := range []int{11, 12, 14, 16} {
		checkSet(t, one, hist, from, []int{20}, 12, 14, 15, 16, 18)
		checkSet(t, one, nil, from, []int{20}, 12, 14, 15, 16, 17)
	}
	checkSet(t, one, nil, 5, []int{10}, 5, 7)
	checkSet(t, one, nil, 2, []int{10}, 5, 7)
	checkSet(t, one, nil, 5, []int{7}, 7)
	checkSet(t, one, nil, 16, []int{19}, 0, 11, 12, 14, 15, 16, 17, 21)
}
