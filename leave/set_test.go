package leave_test

import (
	"testing"

	"spinet/api"
	"spinet/leave"
	"spinet/tree"
)

// step is a transition of rich, and its reach.
type step struct {
	api.Trans
	reach int
}

func steps() []step {
	return []step{
		{to(6, 7), 5},
		{to(6, 4), 2},
		{to(1, 22), 0},
		{to(17, 18), 16},
		{within(12, 15), 12},
		{within(14, 15), 12}, // above the Parallel 14
		{within(11, 21), 0},  // above the Parallel 11
		{to(21), -1},
		{within(5, 8), 2},
		{within(16, 17), 16},
		{to(13, 13, 21), 0},
		{within(2, 6), 2},
		{to(15, 17, 15), 12},
		{within(5, 6), 5},
		{within(12), -1},
		{within(16, 19), 12},
		{to(14, 20), 0},
		{to(17, 18, 15, 21), 0},
	}
}

// stepped is rich with these.
func stepped(t *testing.T) *tree.Tree {
	t.Helper()
	c := drawn(rich)
	for _, one := range steps() {
		c.Trans = append(c.Trans, one.Trans)
	}
	return planted(t, c)
}

// inReach are all states that are in each reach of rich.
func inReach(reach int) []int {
	return map[int][]int{0: upTo(1, 22), 2: upTo(3, 10), 5: {6, 7, 8}, 12: upTo(13, 19), 16: {17, 18}}[reach]
}

// P9.1: of a set with all bits all that are in the reach are left, histories,
// too, but not the reach itself, nor bits of states that aren't there; of an
// empty one nothing.

func TestLeftOfAllAndOfNone(t *testing.T) {
	one := stepped(t)
	for i, step := range steps() {
		checkReach(t, one, i, step.reach)
		checkSet(t, one, full, i, inReach(step.reach)...)
		checkSet(t, one, 1<<23-1, i, inReach(step.reach)...)
		checkSet(t, one, set(inReach(step.reach)...), i, inReach(step.reach)...)
		checkSet(t, one, 0, i)
		checkSet(t, one, ^set(inReach(step.reach)...), i) // none of these is in the reach
	}
}

// Each bit alone, and each bit away from all.

func TestLeftBitByBit(t *testing.T) {
	one := stepped(t)
	for i, step := range steps() {
		in := set(inReach(step.reach)...)
		for s := range 32 {
			checkSet(t, one, set(s), i, members(set(s)&in)...)
			checkSet(t, one, full&^set(s), i, members(in&^set(s))...)
			checkSet(t, one, set(s, 0, 24, 31), i, members(set(s)&in)...)
		}
	}
}

// What sessions may stand in, and other sets: just what is of them is left.

func TestLeftOfOrdinarySets(t *testing.T) {
	one := stepped(t)
	inner := []int{0, 2, 5, 6}
	checkSet(t, one, set(inner...), 0, 6)
	checkSet(t, one, set(inner...), 1, 5, 6)
	checkSet(t, one, set(inner...), 2, 2, 5, 6)
	checkSet(t, one, set(inner...), 3)
	checkSet(t, one, set(inner...), 7)
	checkSet(t, one, set(inner...), 8, 5, 6)
	checkSet(t, one, set(inner...), 11, 5, 6)
	checkSet(t, one, set(inner...), 12)
	checkSet(t, one, set(inner...), 13, 6)
	regions := []int{0, 11, 12, 14, 15, 16, 17, 21}
	checkSet(t, one, set(regions...), 0)
	checkSet(t, one, set(regions...), 1)
	checkSet(t, one, set(regions...), 2, 11, 12, 14, 15, 16, 17, 21)
	checkSet(t, one, set(regions...), 3, 17)
	checkSet(t, one, set(regions...), 4, 14, 15, 16, 17)
	checkSet(t, one, set(regions...), 5, 14, 15, 16, 17)
	checkSet(t, one, set(regions...), 6, 11, 12, 14, 15, 16, 17, 21)
	checkSet(t, one, set(regions...), 9, 17)
	checkSet(t, one, set(regions...), 14)
	checkSet(t, one, set(regions...), 15, 14, 15, 16, 17)
	checkSet(t, one, set(regions...), 17, 11, 12, 14, 15, 16, 17, 21)
	checkSet(t, one, set(0, 1), 2, 1)
	checkSet(t, one, set(0, 1), 0)
	checkSet(t, one, set(0, 2, 5, 12, 16), 0) // the reach alone, and others
	checkSet(t, one, set(0), 2)
	checkSet(t, one, set(12), 4)
}

// Histories that a set has are left, if they are in the reach, and bits of states
// that aren't there never are.

func TestLeftOfSetsWithHistories(t *testing.T) {
	one := stepped(t)
	histories := []int{3, 8, 10, 19, 20}
	for _, behind := range []uint32{0, set(23), set(24), set(31), 0xff800000} {
		of := set(histories...) | behind
		checkSet(t, one, of, 0, 8)
		checkSet(t, one, of, 1, 3, 8, 10)
		checkSet(t, one, of, 2, 3, 8, 10, 19, 20)
		checkSet(t, one, of, 3)
		checkSet(t, one, of, 4, 19)
		checkSet(t, one, of, 7)
		checkSet(t, one, of|set(6, 17), 13, 6, 8)
		checkSet(t, one, behind, 2)
	}
}

// A chain of 24 states: all further in than the reach are left.

func TestLeftOfChains(t *testing.T) {
	for _, text := range []string{chain(), mixed()} {
		c := drawn(text)
		for s := 1; s < 24; s++ {
			c.Trans = append(c.Trans, to(s, s))
		}
		c.Trans = append(c.Trans, within(2, 23), within(22, 23))
		one := planted(t, c)
		for i := range c.Trans {
			reach := leave.Reach(one, i)
			checkSet(t, one, full, i, upTo(reach+1, 23)...)
			checkSet(t, one, set(0, 7, 12, 23, 24), i, members(set(7, 12, 23)&set(upTo(reach+1, 23)...))...)
			checkSet(t, one, 1<<(reach+1)-1, i)
			checkSet(t, one, 0xff<<24, i)
		}
		checkSet(t, one, full, 23, upTo(3, 23)...)
		checkSet(t, one, full, 24, 23)
	}
}

// Few states.

func TestLeftOfFewStates(t *testing.T) {
	one := planted(t, drawn(smallest, to(1, 1), to(1)))
	checkSet(t, one, full, 0, 1)
	checkSet(t, one, set(0, 1), 0, 1)
	checkSet(t, one, set(0), 0)
	checkSet(t, one, full, 1)
	for s := 2; s < 32; s++ {
		checkSet(t, one, set(s), 0)
	}
}
