package engine_test

import (
	"testing"

	"spinet/api"
)

// split has a Parallel with a Parallel in its second region:
//
//	0 C
//	  1 P
//	    2 C
//	      3 A
//	      4 A
//	    5 C
//	      6 P
//	        7 C
//	          8 A
//	          9 A
//	        10 C
//	          11 A
//	          12 A
//	      13 A
//	    14 C
//	      15 A
//	      16 A
//	  17 A
const split = "C(P(C(A A) C(P(C(A A) C(A A)) A) C(A A)) A)"

// all is a whole set of split: its leaves are 3, 8, 11 and 15.
var all = set(0, 1, 2, 3, 5, 6, 7, 8, 10, 11, 14, 15)

// P15.1: of two that clash the one whose Source is in the other one's is kept, be
// it gathered first or last.

func TestTheInnerOfTwo(t *testing.T) {
	one := loudly(t, split, on(7, 6, 13), on(7, 11, 12), on(8, 8, 9), on(8, 6, 13), on(9, 1, 17), on(9, 15, 16))
	s := standing(one, all)
	checkTake(t, one, s, 7, s.without(11).and(12).logs(211, 301, 112))
	checkTake(t, one, s, 8, s.without(8).and(9).logs(208, 302, 109))
	checkTake(t, one, s, 9, s.without(15).and(16).logs(215, 305, 116))
}

// Of two beside each other the one that was gathered first is, whatever their
// places are.

func TestTheFirstOfTwo(t *testing.T) {
	one := loudly(t, split, on(7, 11, 13), on(7, 8, 9), on(8, 15, 17), on(8, 3, 4))
	s := standing(one, all)
	checkTake(t, one, s, 7, s.without(8).and(9).logs(208, 301, 109))
	checkTake(t, one, s, 8, s.without(3).and(4).logs(203, 303, 104))
}

// A leaf whose transition clashes with two: its Source is in the one's and not in
// the other one's. It isn't kept, and so lets none go.

func TestALeafThatClashesWithTwo(t *testing.T) {
	one := loudly(t, split, on(7, 3, 4), on(7, 6, 13), on(7, 11, 17))
	s := standing(one, all)
	checkTake(t, one, s, 7, s.without(3, 6, 7, 8, 10, 11).and(4, 13).logs(211, 210, 208, 207, 206, 203, 300, 301, 104, 113))
	one = loudly(t, split, on(7, 3, 4), on(7, 6, 13), on(7, 11, 17), on(7, 15, 16))
	checkTake(t, one, s, 7, s.without(3, 6, 7, 8, 10, 11, 15).and(4, 13, 16).logs(215, 211, 210, 208, 207, 206, 203, 300, 301, 303, 104, 113, 116))
}

// In neither one's.

func TestALeafBesideTheTwo(t *testing.T) {
	one := loudly(t, split, on(7, 3, 4), on(7, 8, 9), on(7, 15, 17))
	s := standing(one, all)
	checkTake(t, one, s, 7, s.without(3, 8).and(4, 9).logs(208, 203, 300, 301, 104, 109))
	one = loudly(t, split, on(7, 8, 9), on(7, 11, 12), on(7, 14, 17))
	checkTake(t, one, s, 7, s.without(8, 11).and(9, 12).logs(211, 208, 300, 301, 109, 112))
}

// What was let go doesn't come back, and just what clashes is let go: the others
// stay as they were kept.

func TestLetGoIsGone(t *testing.T) {
	one := loudly(t, split, on(7, 1, 17), on(7, 8, 9), on(7, 11, 8), on(7, 15, 16))
	s := standing(one, all)
	checkTake(t, one, s, 7, s.without(8, 15).and(9, 16).logs(215, 208, 301, 303, 109, 116))
	one = loudly(t, split, on(7, 3, 4), on(7, 5), within(on(7, 6, 13)), on(7, 10), on(7, 15, 15))
	checkTake(t, one, s, 7, s.without(3, 6, 7, 8, 10, 11).and(4, 13).logs(215, 211, 210, 208, 207, 206, 203, 300, 302, 303, 304, 104, 113, 115))
}

// One that leaves nothing clashes with none.

func TestNoClashWithoutTargets(t *testing.T) {
	one := loudly(t, split, on(7, 3), on(7, 8), on(7, 6, 13), on(7, 14))
	s := standing(one, all)
	checkTake(t, one, s, 7, s.without(6, 7, 8, 10, 11).and(13).logs(211, 210, 208, 207, 206, 300, 301, 302, 303, 113))
}

// The innermost Source of a leaf goes first, and of that the first transition that
// is ready; what several leaves come to is taken once.

func TestTheInnermostGoesFirst(t *testing.T) {
	one := loudly(t, split, on(7, 1, 17), on(7, 5), on(7, 6), when("a==1", on(7, 8)), when("a==2", on(7, 8)), on(8, 1), on(8, 8), when("b==0", on(8, 8)))
	s := standing(one, all)
	checkTake(t, one, s, 8, s.logs(305, 306))
	checkTake(t, one, s.at(0, 1, 2, 3, 5, 13, 14, 15), 8, s.at(0, 1, 2, 3, 5, 13, 14, 15).logs(305))
	one = loudly(t, split, on(7, 1), on(7, 5), on(7, 6), when("a==1", on(7, 8)), when("not b==1", on(7, 8)), on(7, 8))
	checkTake(t, one, s.with(1, 1, 0), 7, s.with(1, 1, 0).logs(300, 303, 302))
	checkTake(t, one, s.with(2, 2, 0), 7, s.with(2, 2, 0).logs(300, 304, 302))
	checkTake(t, one, s.with(2, 1, 0), 7, s.with(2, 1, 0).logs(300, 305, 302))
}

// A mishap counts each time that its transition is looked at, up to the first one
// that is ready.

func TestMishapsOfEachLeaf(t *testing.T) {
	e := api.EventError
	one := loudly(t, split, when(broken, on(7, 1)), on(7, 1, 17), on(7, 3), when(broken, on(7, 3)), when(broken, on(7, 6)), does(on(e, 17), log("9")))
	s := standing(one, all)
	// leaf 3 has none; 8 and 11 come by the ones from 6 and from 1, and 15 by the one from 1
	want := s.at(0, 17).logs(215, 214, 211, 210, 208, 207, 206, 205, 203, 202, 201, 302, 301, 117)
	for range 5 {
		want = want.logs(305, 9)
	}
	checkTake(t, one, s, 7, want)
}

// Each of these is one with other states active.

func (s session) without(l ...int) session {
	s.Conf &^= set(l...)
	return s
}

func (s session) and(l ...int) session {
	s.Conf |= set(l...)
	return s
}
