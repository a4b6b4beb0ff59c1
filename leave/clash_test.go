package leave_test

import (
	"testing"

	"spinet/api"
	"spinet/tree"
)

// regions are transitions of nest, in the regions of its Parallel, and across
// them.
func regions() []api.Trans {
	return []api.Trans{
		to(5, 6),             // 0: in 4
		to(10, 11),           // 1: in 9
		to(15, 17),           // 2: in 14
		to(17, 18),           // 3: in 16
		within(16, 17),       // 4: in 16
		within(14, 15),       // 5: in 14
		to(12, 12),           // 6: in 2
		within(2, 6, 10, 17), // 7: in 2
		to(5, 17),            // 8: in 2
		to(3, 21),            // 9: in 2
		to(5, 1),             // 10: in the first state
		to(21, 22),           // 11: in the first state
		to(5),                // 12: none
		within(2),            // 13: none
		to(6, 7),             // 14: in 2, as 7 counts as 4
		within(4, 5),         // 15: in 4
	}
}

// alone are those of regions that clash with none of another region.
func alone() map[int]int { return map[int]int{0: 4, 1: 9, 2: 14, 3: 14, 4: 14, 5: 14, 15: 4} }

// checkClashes asks of each pair, in both orders: none clashes with any but those
// told.
func checkClashes(t *testing.T, one *tree.Tree, of uint32, n int, clash func(i, k int) bool) {
	t.Helper()
	for i := range n {
		for k := range i + 1 {
			checkClash(t, one, of, i, k, clash(i, k))
		}
	}
}

func leavesNothing(i int) bool { return i == 12 || i == 13 }

// P9.1: where all regions are active, two that leave different regions don't
// clash, two of one region do, and one that leaves all of them does with each;
// one that leaves nothing clashes with none, nor with itself.

func TestClashInRegions(t *testing.T) {
	one := planted(t, drawn(nest, regions()...))
	apart := alone()
	clash := func(i, k int) bool {
		a, b := apart[i], apart[k]
		return !leavesNothing(i) && !leavesNothing(k) && (a == b || a == 0 || b == 0)
	}
	inner := set(0, 2, 3, 4, 5, 8, 9, 10, 12, 14, 16, 17)
	for _, of := range []uint32{inner, inner &^ set(0, 2), full, 1<<23 - 1, full &^ set(5, 10, 15)} {
		checkClashes(t, one, of, len(regions()), clash)
	}
}

// Just what is of the set counts: of two in each other's reach those that the set
// has not are not left.

func TestClashHangsOnTheSet(t *testing.T) {
	one := planted(t, drawn(nest, regions()...))
	checkClash(t, one, set(0, 2, 3, 14, 16, 17), 2, 3, true)
	checkClash(t, one, set(0, 2, 3, 14, 15), 2, 3, false) // nothing of 16
	checkClash(t, one, set(14, 16), 2, 3, false)
	checkClash(t, one, set(17), 2, 3, true)
	checkClash(t, one, set(18), 2, 3, true)
	checkClash(t, one, set(15), 2, 2, true)
	checkClash(t, one, set(15), 3, 3, false)
	checkClash(t, one, set(14), 2, 2, false) // the reach itself isn't left
	checkClash(t, one, set(14), 2, 7, false)
	checkClash(t, one, set(14), 7, 7, true)
	checkClash(t, one, set(4, 9, 14), 0, 1, false)
	checkClash(t, one, set(4, 9, 14), 7, 9, true)
	checkClash(t, one, set(6), 0, 15, true)
	checkClash(t, one, set(6), 0, 8, true)
	checkClash(t, one, set(6), 1, 8, false)
	checkClash(t, one, set(0, 1), 0, 10, false)
	checkClash(t, one, set(0, 1), 10, 11, true)
	checkClash(t, one, set(0, 2, 21), 10, 7, true)
	checkClash(t, one, set(0, 2), 10, 7, false)
	checkClash(t, one, set(0, 2), 10, 11, true)
	checkClash(t, one, set(0), 10, 11, false)
}

// A history that both leave is one; bits of states that aren't there are none.

func TestClashOfSetsWithHistories(t *testing.T) {
	one := planted(t, drawn(nest, regions()...))
	checkClash(t, one, set(7), 0, 15, true)
	checkClash(t, one, set(7), 0, 7, true)
	checkClash(t, one, set(7), 0, 2, false)
	checkClash(t, one, set(19), 2, 5, true)
	checkClash(t, one, set(19), 3, 5, false)
	checkClash(t, one, set(13), 7, 6, true)
	checkClash(t, one, set(13), 7, 1, false)
	checkClash(t, one, set(20), 10, 11, true)
	checkClash(t, one, set(20), 10, 6, true)
	for i := range regions() {
		for k := range regions() {
			checkClash(t, one, set(23, 24, 31), i, k, false)
			checkClash(t, one, 0xff800000, i, k, false)
		}
	}
}

// Of an empty set nothing is left, so that none clash, nor one with itself.

func TestClashOfNothing(t *testing.T) {
	for _, of := range []uint32{0, set(0), set(0, 23)} {
		one := planted(t, drawn(nest, regions()...))
		checkClashes(t, one, of, len(regions()), func(int, int) bool { return false })
	}
}

// With itself a transition clashes, if it leaves anything.

func TestClashWithItself(t *testing.T) {
	one := stepped(t)
	for i, step := range steps() {
		in := inReach(step.reach)
		checkClash(t, one, full, i, i, step.reach >= 0)
		checkClash(t, one, full&^set(in...), i, i, false)
		for _, s := range in {
			checkClash(t, one, set(s), i, i, true)
		}
	}
}

// One in the other's reach, along a chain: both leave the innermost state.

func TestClashInChains(t *testing.T) {
	for _, text := range []string{chain(), mixed()} {
		c := drawn(text)
		for s := 1; s < 24; s++ {
			c.Trans = append(c.Trans, to(s, s))
		}
		one := planted(t, c)
		for i := range c.Trans {
			for k := range c.Trans {
				checkClash(t, one, set(23), i, k, true)
				checkClash(t, one, full, i, k, true)
				checkClash(t, one, set(0, 1), i, k, max(i, k) == 0 || text == mixed() && max(i, k) == 1)
			}
		}
	}
}

// Beside each other in a Compound: they have that as their reach.

func TestClashInFlat(t *testing.T) {
	c := drawn(flat())
	for s := 1; s < 23; s++ {
		c.Trans = append(c.Trans, to(s, s+1))
	}
	one := planted(t, c)
	for i := range c.Trans {
		for k := range c.Trans {
			checkClash(t, one, set(0, 5), i, k, true)
			checkClash(t, one, set(0, 23), i, k, true)
			checkClash(t, one, set(0, 24), i, k, false)
		}
	}
}
