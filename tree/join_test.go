package tree_test

import (
	"slices"
	"testing"

	"spinet/api"
	"spinet/tree"
)

// checkJoin asks what a row is joined in, and that it stays as it was.
func checkJoin(t *testing.T, one *tree.Tree, want int, l ...int) {
	t.Helper()
	was := slices.Clone(l)
	if got := one.Join(l); got != want {
		t.Errorf("Join(%v) = %d, want %d", was, got, want)
	}
	if !slices.Equal(l, was) {
		t.Errorf("Join made %v of %v", l, was)
	}
}

// P7.2: none are joined in nothing, nor are those with the first state among
// them, which is in nothing.

func TestJoinOfNone(t *testing.T) {
	for _, s := range []string{smallest, rich, chain(), mixed(), flat()} {
		one := planted(t, drawn(s))
		checkJoin(t, one, -1)
		checkJoin(t, one, -1, []int{}...)
		checkJoin(t, one, -1, make([]int, 0, 5)...)
	}
}

func TestJoinWithTheFirstState(t *testing.T) {
	one := planted(t, drawn(rich))
	checkJoin(t, one, -1, 0)
	checkJoin(t, one, -1, 0, 0)
	for s := range 23 {
		checkJoin(t, one, -1, 0, s)
		checkJoin(t, one, -1, s, 0)
		checkJoin(t, one, -1, s, 0, s)
		checkJoin(t, one, -1, s, s, 0)
	}
}

// Of one state: the innermost Compound that it is in, which isn't itself, and
// no Parallel, however often it stands there.

func TestJoinOfOne(t *testing.T) {
	one := planted(t, drawn(rich))
	for s, want := range []int{-1, 0, 0, 2, 2, 2, 5, 5, 5, 2, 2, 0, 0, 12, 12, 12, 12, 16, 16, 12, 0, 0, 0} {
		checkJoin(t, one, want, s)
		checkJoin(t, one, want, s, s)
		checkJoin(t, one, want, slices.Repeat([]int{s}, 50)...)
	}
	line := planted(t, drawn(chain()))
	for s := range 24 {
		checkJoin(t, line, s-1, s)
	}
	line = planted(t, drawn(mixed()))
	for s, want := range []int{-1, 0, 0, 2, 2, 4, 4, 6, 6, 8, 8, 10, 10, 12, 12, 14, 14, 16, 16, 18, 18, 20, 20, 22} {
		checkJoin(t, line, want, s)
	}
}

// Of a state and one that it is in: what that is in, too.

func TestJoinOfNested(t *testing.T) {
	one := planted(t, drawn(rich))
	for _, l := range [][3]int{{6, 5, 2}, {6, 2, 0}, {5, 2, 0}, {8, 5, 2}, {3, 2, 0}, {17, 16, 12}, {17, 14, 12}, {17, 12, 0}, {17, 11, 0}, {15, 14, 12}, {19, 14, 12}, {20, 11, 0}, {21, 11, 0}} {
		checkJoin(t, one, l[2], l[0], l[1])
		checkJoin(t, one, l[2], l[1], l[0])
		checkJoin(t, one, l[2], l[1], l[0], l[1])
	}
	line := planted(t, drawn(chain()))
	for a := range 24 {
		for b := range 24 {
			checkJoin(t, line, min(a, b)-1, a, b)
		}
	}
}

// Of others: the innermost Compound that all of them are in, be there a
// Parallel in it, or not.

func TestJoinOfSeveral(t *testing.T) {
	one := planted(t, drawn(rich))
	for _, l := range [][]int{ // what they are joined in comes first
		{5, 6, 7}, {5, 6, 8}, {2, 6, 4}, {2, 4, 9}, {2, 6, 9}, {2, 8, 3}, {2, 3, 10}, {2, 7, 10}, {2, 5, 4},
		{0, 1, 2}, {0, 1, 22}, {0, 1, 6}, {0, 6, 17}, {0, 8, 19}, {0, 2, 11},
		{16, 17, 18}, {12, 13, 14}, {12, 13, 17}, {12, 13, 19},
		{12, 15, 16}, {12, 15, 17}, {12, 16, 19}, {12, 18, 19}, // they part in the Parallel 14
		{0, 12, 21}, {0, 13, 21}, {0, 17, 21}, {0, 17, 20}, {0, 20, 21}, // and in the Parallel 11
		{5, 6, 7, 8}, {2, 6, 7, 9}, {2, 6, 7, 8, 3}, {0, 6, 7, 1}, {0, 6, 4, 13}, {12, 15, 17, 18}, {12, 17, 18, 13}, {0, 17, 18, 21},
	} {
		want, rest := l[0], l[1:]
		checkJoin(t, one, want, rest...)
		for range rest {
			rest = append(slices.Clone(rest[1:]), rest[0])
			checkJoin(t, one, want, rest...)
			checkJoin(t, one, want, append(rest, rest...)...)
		}
		slices.Reverse(rest)
		checkJoin(t, one, want, rest...)
	}
}

func TestJoinOfFlat(t *testing.T) {
	one := planted(t, drawn(flat()))
	var all []int
	for s := 1; s < 24; s++ {
		all = append(all, s)
		checkJoin(t, one, 0, all...)
		checkJoin(t, one, 0, s, 23)
		checkJoin(t, one, -1, append(all, 0)...)
	}
}

// A row may be long.

func TestJoinOfLongRow(t *testing.T) {
	one := planted(t, drawn(rich))
	l := slices.Repeat([]int{17, 18, 15, 19}, 100_000)
	checkJoin(t, one, 12, l...)
	l[len(l)-1] = 21
	checkJoin(t, one, 0, l...)
	l[len(l)-1] = 23
	checkJoin(t, one, -1, l...)
}

func checkLeaves(t *testing.T, one *tree.Tree, of uint32, want ...int) {
	t.Helper()
	if got := one.Leaves(of); !slices.Equal(got, want) {
		t.Errorf("Leaves(%b) = %v, want %v", of, got, want)
	}
}

// P7.2: those of a set that are Atomic or Final, rising; bits of states that
// aren't there count for nothing.

func TestLeavesOfRich(t *testing.T) {
	leaves := []int{1, 4, 6, 7, 9, 13, 15, 17, 18, 21, 22}
	one := planted(t, drawn(rich))
	checkLeaves(t, one, 0)
	checkLeaves(t, one, 1<<32-1, leaves...)
	checkLeaves(t, one, 1<<23-1, leaves...)
	checkLeaves(t, one, set(leaves...), leaves...)
	checkLeaves(t, one, ^set(leaves...))
	for s := range 32 {
		if slices.Contains(leaves, s) {
			checkLeaves(t, one, set(s), s)
			checkLeaves(t, one, set(s, 0, 2, 3, 31), s)
		} else {
			checkLeaves(t, one, set(s))
			checkLeaves(t, one, set(s, 6, 22), 6, 22)
		}
	}
	checkLeaves(t, one, set(22, 1), 1, 22)
	checkLeaves(t, one, set(21, 7, 13, 11, 12, 8), 7, 13, 21)
	checkLeaves(t, one, one.Below(2), 4, 6, 7, 9)
	checkLeaves(t, one, one.Below(11)|set(11, 0), 13, 15, 17, 18, 21)
}

func TestLeavesOfOneKindAlone(t *testing.T) {
	one := planted(t, drawn(rich))
	for kind, want := range map[int][]int{
		api.Atomic: {1, 4, 6, 13, 15, 17, 21}, api.Final: {7, 9, 18, 22},
		api.Compound: nil, api.Parallel: nil, api.Shallow: nil, api.Deep: nil,
	} {
		var of uint32
		for s := range 23 {
			if one.Kind(s) == kind {
				of |= set(s)
			}
		}
		if of == 0 {
			t.Fatalf("no state of Kind %d", kind)
		}
		checkLeaves(t, one, of, want...)
	}
}

func TestLeavesOfMostStates(t *testing.T) {
	for _, s := range []string{chain(), mixed()} {
		one := planted(t, drawn(s))
		checkLeaves(t, one, set(23), 23)
		checkLeaves(t, one, 1<<23-1)
		checkLeaves(t, one, 1<<32-1, 23)
		checkLeaves(t, one, 0xff<<24)
	}
	one := planted(t, drawn(flat()))
	var all []int
	for s := range 24 {
		if s > 0 {
			all = append(all, s)
		}
		checkLeaves(t, one, 1<<(s+1)-1, all...)
	}
	checkLeaves(t, one, 1<<32-1, all...)
	checkLeaves(t, one, set(23), 23)
	checkLeaves(t, one, set(0, 23, 24, 31), 23)
}

func TestLeavesOfFewStates(t *testing.T) {
	one := planted(t, drawn(smallest))
	checkLeaves(t, one, 1<<32-1, 1)
	checkLeaves(t, one, set(0))
	for s := 2; s < 32; s++ {
		checkLeaves(t, one, set(s))
		checkLeaves(t, one, set(s, 1), 1)
	}
}
