package choose_test

import (
	"testing"

	"spinet/api"
)

// P10.1: one leaf whose own transition is ready; of the others nothing is looked
// at.

func TestOneLeaf(t *testing.T) {
	one := planted(t, drawn(nest, from(5), from(6), from(10), from(1)))
	checkGather(t, one, set(5), 0, 0)
	checkGather(t, one, set(6), 0, 1)
	checkGather(t, one, set(10), 0, 2)
	checkGather(t, one, set(1), 0, 3)
	checkGather(t, one, set(0, 2, 3, 4, 5, 8), 0, 0)
	checkGather(t, one, set(12), 0)
	checkGather(t, one, set(21), 0)
}

// Just a state that the leaf is in has one that is ready, near it or far out,
// whether the set has that state or not.

func TestFurtherOut(t *testing.T) {
	for _, s := range []int{16, 14, 3, 2} {
		one := planted(t, drawn(nest, from(s)))
		for _, of := range []uint32{set(17), set(18), set(17, s), set(0, 2, 3, 14, 16, 18)} {
			checkGather(t, one, of, 0, 0)
		}
		checkGather(t, one, set(s), 0)
		checkGather(t, one, set(0, s, 22), 0)
		checkGather(t, one, set(1), 0)
	}
}

// The innermost one that is ready, whatever its place among the transitions.

func TestInnermostFirst(t *testing.T) {
	one := planted(t, drawn(nest, from(2), from(3), from(14), from(16), from(17)))
	checkGather(t, one, set(17), 0, 4)
	checkGather(t, one, set(18), 0, 3)
	checkGather(t, one, set(15), 0, 2)
	checkGather(t, one, set(5), 0, 1)
	checkGather(t, one, set(21), 0, 0)
	checkGather(t, one, set(22), 0)
	one = planted(t, drawn(nest, from(17), from(16), from(14), from(3), from(2)))
	checkGather(t, one, set(17), 0, 0)
	checkGather(t, one, set(18), 0, 1)
	checkGather(t, one, set(15), 0, 2)
	checkGather(t, one, set(5), 0, 3)
	checkGather(t, one, set(21), 0, 4)
	one = planted(t, drawn(nest, when(17, "false"), from(2), when(16, "false"), of(8, from(14)), from(3)))
	checkGather(t, one, set(17), 0, 4)
	checkGather(t, one, set(21), 0, 1)
}

// Of several of one state the first one that is ready, be it behind others: for
// another event, with a Guard that is false, or with a mishap.

func TestFirstOfOneState(t *testing.T) {
	one := planted(t, drawn(nest, from(5), from(5), from(5)))
	checkGather(t, one, set(5), 0, 0)
	one = planted(t, drawn(nest, of(8, from(5)), when(5, "false"), from(5), from(5)))
	checkGather(t, one, set(5), 0, 2)
	one = planted(t, drawn(nest, from(6), when(5, "a<b"), from(4), when(5, "b<a"), when(5, "a==b"), from(5)))
	checkGatherFor(t, one, set(5), []int64{1, 2}, 7, 0, 1)
	checkGatherFor(t, one, set(5), []int64{2, 1}, 7, 0, 3)
	checkGatherFor(t, one, set(5), []int64{2, 2}, 7, 0, 4)
	checkGatherFor(t, one, set(5), []int64{2}, 7, 3, 5)
	one = planted(t, drawn(nest, when(5, broken), from(3), from(5)))
	checkGather(t, one, set(5), 1, 2)
	one = planted(t, drawn(nest, of(8, from(4)), when(4, "false"), from(4), from(4)))
	checkGather(t, one, set(6), 0, 2)
	checkGatherFor(t, one, set(6), nil, 8, 0, 0)
}

// Several leaves: leaf by leaf, rising, whatever the transitions' order is.

func TestSeveralLeaves(t *testing.T) {
	one := planted(t, drawn(nest, from(5), from(10), from(12), from(17)))
	checkGather(t, one, inner, 0, 0, 1, 2, 3)
	checkGather(t, one, inner&^set(10), 0, 0, 2, 3)
	checkGather(t, one, set(17, 5), 0, 0, 3)
	one = planted(t, drawn(nest, from(17), from(12), from(10), from(5)))
	checkGather(t, one, inner, 0, 3, 2, 1, 0)
	one = planted(t, drawn(nest, from(14), from(9), from(17), from(4)))
	checkGather(t, one, inner, 0, 3, 1, 2)
	checkGather(t, one, set(6, 11, 12, 15), 0, 3, 1, 0)
	one = planted(t, drawn(nest, when(5, "a<b"), when(10, "b<a"), when(12, "a<b"), when(17, "b<a")))
	checkGatherFor(t, one, inner, []int64{1, 2}, 7, 0, 0, 2)
	checkGatherFor(t, one, inner, []int64{2, 1}, 7, 0, 1, 3)
}

// What two leaves come to is gathered once, where the first one comes to it, and
// no other one instead: neither of the same state, nor of one further out.

func TestTwoLeavesComeToOne(t *testing.T) {
	one := planted(t, drawn(nest, from(3)))
	checkGather(t, one, inner, 0, 0)
	checkGather(t, one, set(5, 17), 0, 0)
	one = planted(t, drawn(nest, from(2), from(3), from(3)))
	checkGather(t, one, inner, 0, 1)
	checkGather(t, one, inner|set(21), 0, 1, 0)
	one = planted(t, drawn(nest, from(10), from(3), from(17), from(2)))
	checkGather(t, one, inner, 0, 1, 0, 2)
	checkGather(t, one, set(10, 12, 17), 0, 0, 1, 2)
	checkGather(t, one, set(10, 17, 21), 0, 0, 2, 3)
	one = planted(t, drawn(nest, from(8), from(5), from(3)))
	checkGather(t, one, inner, 0, 1, 0, 2) // 10 and 12 come to 0, then 17 to 2
	checkGather(t, one, set(6, 10, 12, 15), 0, 2, 0)
}

// Finals are leaves: none has a transition of its own, but what it is in does.

func TestFinalsAreLeaves(t *testing.T) {
	one := planted(t, drawn(nest, from(16), from(9), of(api.EventDone+16, from(14)), from(10)))
	checkGather(t, one, set(18), 0, 0)
	checkGather(t, one, set(11), 0, 1)
	checkGather(t, one, set(11, 18), 0, 1, 0)
	checkGather(t, one, set(10, 11), 0, 3, 1)
	checkGather(t, one, set(22), 0)
	checkGatherFor(t, one, set(18), nil, api.EventDone+16, 0, 2)
	checkGatherFor(t, one, set(11), nil, api.EventDone+16, 0)
}

// No leaves: no states, just others, histories, bits of states that aren't there.

func TestNoLeaves(t *testing.T) {
	c := drawn(nest)
	for _, s := range []int{2, 3, 4, 8, 9, 14, 16, 5, 10, 17} {
		c.Trans = append(c.Trans, from(s), when(s, broken))
	}
	one := planted(t, c)
	for _, of := range []uint32{0, set(0), set(0, 2, 3, 4, 8, 9, 14, 16), set(7, 13, 19, 20), set(3, 7, 23), 0xff800000} {
		checkGather(t, one, of, 0)
	}
}

// A set with histories, or with bits of states that aren't there, is as without
// them; one with all bits has all leaves.

func TestAllBits(t *testing.T) {
	one := planted(t, drawn(nest, from(4), from(10), from(14), from(2), from(1)))
	for _, more := range []uint32{0, set(7, 13, 19, 20), 0xff800000, set(7, 31)} {
		checkGather(t, one, set(5, 10)|more, 0, 0, 1)
		checkGather(t, one, set(6, 12, 17)|more, 0, 0, 3, 2)
		checkGather(t, one, set(1)|more, 0, 4)
	}
	checkGather(t, one, full, 0, 4, 0, 1, 3, 2)
	checkGather(t, one, 1<<23-1, 0, 4, 0, 1, 3, 2)
}

// Mishaps ahead of the one that is ready count, of its state and of those further
// in; those behind it, and of states further out, don't, as they aren't looked at.

func TestMishaps(t *testing.T) {
	one := planted(t, drawn(nest, when(5, broken), from(5), when(5, broken), when(4, broken), when(2, broken)))
	checkGather(t, one, set(5), 1, 1)
	checkGather(t, one, set(6), 2)
	checkGather(t, one, set(21), 1)
	checkGather(t, one, set(1), 0)
	one = planted(t, drawn(nest, when(5, broken), when(5, "a==a"), when(4, broken), when(3, "false"), when(3, broken), from(3), when(3, broken), when(2, broken)))
	checkGather(t, one, set(5), 4, 5)
	checkGatherFor(t, one, set(5), []int64{0}, 7, 1, 1)
	checkGather(t, one, set(12), 1, 5)
	one = planted(t, drawn(nest, when(2, broken), when(3, broken), when(4, broken), when(5, broken)))
	checkGather(t, one, set(5), 4)
	checkGather(t, one, set(6), 3)
	checkGather(t, one, set(15), 2)
}

// Those for other events are none.

func TestMishapsOfOtherEvents(t *testing.T) {
	one := planted(t, drawn(nest, of(8, when(5, broken)), when(5, broken), of(0, when(4, broken)), of(8, from(3))))
	checkGather(t, one, set(5), 1)
	checkGatherFor(t, one, set(5), nil, 8, 1, 3)
	checkGatherFor(t, one, set(5), nil, 0, 1)
	checkGatherFor(t, one, set(5), nil, 9, 0)
	checkGatherFor(t, one, set(5), nil, api.EventError, 0)
}

// One that is looked at from several leaves is a mishap each time.

func TestMishapsLeafByLeaf(t *testing.T) {
	one := planted(t, drawn(nest, when(3, broken)))
	checkGather(t, one, inner, 4)
	checkGather(t, one, set(5), 1)
	checkGather(t, one, set(5, 17, 21, 1), 2)
	checkGather(t, one, full, 8) // 5, 6, 10, 11, 12, 15, 17 and 18 are in it
	one = planted(t, drawn(nest, when(3, broken), from(2)))
	checkGather(t, one, inner, 4, 1)
	one = planted(t, drawn(nest, when(8, broken), when(3, broken), from(10), from(3)))
	checkGather(t, one, inner, 4, 3, 2) // 5 looks at 1, 12 at 0 and 1, 17 at 1
	one = planted(t, drawn(nest, when(3, broken), when(4, broken), when(5, broken), when(17, broken), from(12)))
	checkGather(t, one, inner, 6, 4) // 5: 3, 10: 1, 12: 0, 17: 2
}

// What was gathered is looked at again, and so are those ahead of it: their
// mishaps count once more.

func TestMishapsAheadOfWhatWasGathered(t *testing.T) {
	one := planted(t, drawn(nest, when(3, broken), from(3), when(3, broken)))
	checkGather(t, one, inner, 4, 1)
	checkGather(t, one, set(5, 6), 2, 1)
}
