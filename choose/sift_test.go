package choose_test

import (
	"slices"
	"testing"

	"spinet/api"
)

// regions are transitions of nest, in the regions of its Parallel, and across
// them, each with what it leaves of a set: those in its reach.
func regions() []api.Trans {
	return []api.Trans{
		to(5, 6),             // 0: in 4
		to(10, 11),           // 1: in 9
		to(15, 17),           // 2: in 14
		to(17, 18),           // 3: in 16
		within(16, 17),       // 4: in 16
		within(14, 15),       // 5: in 14
		to(12, 12),           // 6: in 2
		within(2, 6, 10, 17), // 7: in 2
		to(5, 17),            // 8: in 2
		to(3, 21),            // 9: in 2
		to(5, 1),             // 10: in the first state
		to(21, 22),           // 11: in the first state
		to(5),                // 12: none
		within(2),            // 13: none
		to(4, 17),            // 14: in 2
		within(4, 5),         // 15: in 4
	}
}

// P10.1: those that don't clash are kept, in their order.

func TestThoseThatDontClash(t *testing.T) {
	one := planted(t, drawn(nest, regions()...))
	for _, l := range [][]int{{0}, {7}, {11}, {0, 1}, {1, 0}, {0, 1, 3}, {3, 1, 0}, {1, 3, 0}, {15, 1, 5}, {5, 15}, {4, 0, 1}} {
		checkSift(t, one, inner, l, l...)
		checkSift(t, one, full, l, l...)
	}
	checkSift(t, one, inner, nil)
	checkSift(t, one, inner, []int{})
}

// Of two that clash: where the later one's Source is in the earlier one's, that
// one is let go; where it isn't, the later one isn't kept: the other way round,
// too, so that the same one stays.

func TestSourceInTheOthers(t *testing.T) {
	one := planted(t, drawn(nest, regions()...))
	for _, pair := range [][2]int{ // the first one's Source is in the second one's
		{3, 4}, {3, 5}, {4, 5}, {2, 5}, {0, 15}, {0, 14}, {0, 7}, {0, 9}, {1, 9}, {1, 7}, {3, 9}, {6, 9}, {6, 7},
		{8, 9}, {8, 14}, {8, 15}, {14, 9}, {9, 7}, {10, 9}, {10, 7}, {10, 15}, {11, 7},
	} {
		checkSift(t, one, full, []int{pair[1], pair[0]}, pair[0])
		checkSift(t, one, full, []int{pair[0], pair[1]}, pair[0])
	}
}

// Where neither Source is in the other one's, or both are one, the earlier one is
// kept.

func TestSourceBesideTheOthers(t *testing.T) {
	one := planted(t, drawn(nest, regions()...))
	for _, pair := range [][2]int{
		{0, 8}, {0, 10}, {8, 10}, {14, 15}, {0, 6}, {1, 8}, {1, 6}, {2, 3}, {2, 4}, {3, 8}, {5, 8}, {6, 8}, {1, 14}, {6, 14}, {5, 14},
		{10, 6}, {10, 1}, {10, 11}, {11, 0}, {11, 9}, {11, 6}, {11, 5},
	} {
		checkSift(t, one, full, []int{pair[0], pair[1]}, pair[0])
		checkSift(t, one, full, []int{pair[1], pair[0]}, pair[1])
	}
}

// One that clashes with two: its Source is in the one's, and not in the other
// one's. It isn't kept, and so lets none go, in whichever order they were kept.

func TestSourceInOneOfTwo(t *testing.T) {
	one := planted(t, drawn(nest, regions()...))
	checkSift(t, one, inner, []int{15, 1, 8}, 15, 1)
	checkSift(t, one, inner, []int{1, 15, 8}, 1, 15)
	checkSift(t, one, inner, []int{15, 3, 10}, 15, 3)
	checkSift(t, one, inner, []int{3, 15, 10}, 3, 15)
	checkSift(t, one, inner, []int{1, 15, 3, 8}, 1, 15, 3)
	checkSift(t, one, inner, []int{1, 3, 15, 10}, 1, 3, 15)
	checkSift(t, one, inner, []int{15, 1, 3, 8, 10}, 15, 1, 3)
	checkSift(t, one, inner, []int{15, 1, 8, 0}, 1, 0) // 15 was still there to be let go
}

// In neither one's.

func TestSourceInNoneOfTwo(t *testing.T) {
	one := planted(t, drawn(nest, regions()...))
	checkSift(t, one, inner, []int{0, 1, 6}, 0, 1)
	checkSift(t, one, inner, []int{1, 0, 7}, 1, 0)
	checkSift(t, one, inner, []int{3, 1, 0, 9}, 3, 1, 0)
	checkSift(t, one, inner, []int{9, 10, 11}, 10)
}

// Just those that it clashes with are let go, and the others stay as they were
// kept, with it behind them.

func TestTheOthersStay(t *testing.T) {
	one := planted(t, drawn(nest, regions()...))
	checkSift(t, one, inner, []int{15, 1, 0}, 1, 0)
	checkSift(t, one, inner, []int{1, 15, 0}, 1, 0)
	checkSift(t, one, inner, []int{1, 15, 5, 0}, 1, 5, 0)
	checkSift(t, one, inner, []int{15, 1, 5, 3}, 15, 1, 3)
	checkSift(t, one, inner, []int{5, 1, 15, 3, 0}, 1, 3, 0)
	checkSift(t, one, inner, []int{5, 15, 4, 3, 0, 1}, 3, 0, 1)
}

// One after the other: what was let go is not held against any more, and what
// wasn't kept doesn't come back.

func TestLetGoIsGone(t *testing.T) {
	one := planted(t, drawn(nest, regions()...))
	checkSift(t, one, inner, []int{9, 0, 1}, 0, 1)
	checkSift(t, one, inner, []int{9, 1, 0, 3}, 1, 0, 3)
	checkSift(t, one, inner, []int{7, 9, 14, 0, 1}, 0, 1)
	checkSift(t, one, inner, []int{14, 1, 0}, 0) // 14 was kept when 1 was held against it
	checkSift(t, one, inner, []int{14, 0, 1}, 0, 1)
	checkSift(t, one, inner, []int{1, 14, 0}, 1, 0)
	checkSift(t, one, inner, []int{14, 1, 3, 0, 1}, 0, 1)
	checkSift(t, one, inner, []int{9, 6, 0}, 6)
	checkSift(t, one, inner, []int{9, 0, 6}, 0)
}

// Without Targets nothing is left, and so none clashes; it is kept wherever it
// stands, and lets none go.

func TestThoseWithoutTargets(t *testing.T) {
	one := planted(t, drawn(nest, regions()...))
	for _, l := range [][]int{{12}, {13}, {12, 13}, {13, 12}, {12, 0}, {0, 12}, {13, 0}, {7, 12}, {12, 7, 13}, {13, 0, 1, 3, 12}, {10, 13}} {
		checkSift(t, one, inner, l, l...)
		checkSift(t, one, full, l, l...)
	}
	checkSift(t, one, inner, []int{9, 12, 0, 13, 8}, 12, 0, 13)
	checkSift(t, one, inner, []int{12, 9, 13, 10, 1}, 12, 13, 10)
}

// Just of the set things are left: where it has nothing of what two leave, they
// don't clash.

func TestSiftHangsOnTheSet(t *testing.T) {
	one := planted(t, drawn(nest, regions()...))
	all := upTo(0, 15)
	for _, of := range []uint32{0, set(0), set(0, 23, 31), 0xff800000} {
		checkSift(t, one, of, all, all...)
		checkSift(t, one, of, turned(all), turned(all)...)
	}
	checkSift(t, one, set(5), []int{3, 4, 5}, 3, 4, 5)
	checkSift(t, one, set(15), []int{3, 5}, 3, 5)
	checkSift(t, one, set(15), []int{2, 5}, 2)
	checkSift(t, one, set(17), []int{5, 3}, 3)
	checkSift(t, one, set(5, 10), []int{6, 3, 5}, 6, 3, 5)
	checkSift(t, one, set(21), []int{10, 9, 0, 15}, 10, 0, 15)
	checkSift(t, one, set(21), []int{9, 10, 0, 15}, 10, 0, 15)
	checkSift(t, one, set(1), []int{9, 10, 11}, 9, 10)
	checkSift(t, one, set(1), []int{9, 11, 10}, 9, 11)
	checkSift(t, one, set(2), []int{9, 11, 10}, 9, 11)
}

// A history that a set has is left by those that it is in the reach of.

func TestSiftOfSetsWithHistories(t *testing.T) {
	one := planted(t, drawn(nest, regions()...))
	checkSift(t, one, set(7), []int{15, 0, 1}, 0, 1)
	checkSift(t, one, set(13), []int{1, 6, 9, 0, 8}, 1, 6, 0)
	checkSift(t, one, set(19), []int{5, 3, 2}, 3, 2)
	checkSift(t, one, set(20), []int{7, 3, 10, 8}, 3, 10)
}

// P10.3: one that is there twice isn't kept twice. It clashes with itself, if it
// leaves anything, and its Source isn't in its own one; nor is it kept twice if it
// leaves nothing.

func TestTwiceInTheList(t *testing.T) {
	one := planted(t, drawn(nest, regions()...))
	for i := range regions() {
		for _, of := range []uint32{0, set(0), inner, full} {
			checkSift(t, one, of, []int{i, i}, i)
			checkSift(t, one, of, []int{i, i, i}, i)
			checkSift(t, one, of, []int{i, -1, i, 16, i}, i)
		}
	}
	checkSift(t, one, inner, []int{0, 1, 0}, 0, 1)
	checkSift(t, one, inner, []int{0, 1, 1, 0, 3}, 0, 1, 3)
	checkSift(t, one, inner, []int{15, 0, 15}, 0)
	checkSift(t, one, inner, []int{0, 15, 0}, 0)
	checkSift(t, one, inner, []int{15, 1, 15, 8, 15}, 15, 1)
	checkSift(t, one, inner, []int{12, 0, 12}, 12, 0)
	checkSift(t, one, inner, []int{13, 15, 12, 13, 0, 12, 13}, 13, 12, 0)
	checkSift(t, one, 0, []int{0, 9, 0, 9, 8, 0}, 0, 9, 8)
}

// The whole list, in its order and from its end on.

func TestAllRegions(t *testing.T) {
	one := planted(t, drawn(nest, regions()...))
	all := upTo(0, 15)
	checkSift(t, one, inner, all, 0, 1, 2, 12, 13)
	checkSift(t, one, inner, turned(all), 13, 12, 10)
	checkSift(t, one, full, all, 0, 1, 2, 12, 13)
	checkSift(t, one, full, slices.Concat(all, turned(all)), 0, 1, 2, 12, 13)
}
