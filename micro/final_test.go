package micro_test

import (
	"testing"

	"spinet/api"
)

// ends has a Parallel of two regions, each with a Final, in a Compound that has
// one, too:
//
//	0 C
//	  1 A
//	  2 C
//	    3 P
//	      4 C
//	        5 A
//	        6 F
//	      7 C
//	        8 A
//	        9 F
//	        10 S
//	      11 D
//	    12 F
//	  13 F
const ends = "C(A C(P(C(A F) C(A F S) D) F) F)"

// twice has a Parallel in a Parallel:
//
//	0 C
//	  1 P
//	    2 C
//	      3 A
//	      4 F
//	    5 P
//	      6 C
//	        7 A
//	        8 F
//	      9 C
//	        10 A
//	        11 F
//	      12 S
//	    13 D
//	  14 A
const twice = "C(P(C(A F) P(C(A F) C(A F) S) D) A)"

// P12.1: a Final whose Parent is the first state: the session has ended, and no
// event tells of it.

func TestTheEnd(t *testing.T) {
	one := loudly(t, ends, to(1, 13), to(2, 13))
	checkStep(t, one, standing(one, set(0, 1)), []int{0}, standing(one, set(0, 13)).happens(201, 300, 113).as(api.Ended))
	checkStep(t, one, standing(one, set(0, 2, 3, 4, 6, 7, 9)), []int{1}, standing(one, set(0, 13)).
		happens(209, 207, 206, 204, 203, 202, 301, 113).as(api.Ended).keeps(10, 9).keeps(11, 6, 9))
	bare := planted(t, drawn("C(A F)", to(1, 2)))
	checkStep(t, bare, standing(bare, set(0, 1)), []int{0}, standing(bare, set(0, 2)).as(api.Ended))
}

// One deeper: EventDone and its Parent's number.

func TestDone(t *testing.T) {
	one := loudly(t, ends, to(3, 12), to(1, 12), to(1, 6), to(5, 6))
	checkStep(t, one, standing(one, set(0, 2, 3, 4, 5, 7, 8)), []int{0}, standing(one, set(0, 2, 12)).
		happens(208, 207, 205, 204, 203, 300, 112, done(2)).keeps(10, 8).keeps(11, 5, 8))
	checkStep(t, one, standing(one, set(0, 1)), []int{1}, standing(one, set(0, 2, 12)).happens(201, 301, 102, 112, done(2)))
	checkStep(t, one, standing(one, set(0, 1)), []int{2}, standing(one, set(0, 2, 3, 4, 6, 7, 8)).
		happens(201, 302, 102, 103, 104, 106, done(4), 107, 108))
	checkStep(t, one, standing(one, set(0, 2, 3, 4, 5, 7, 8)), []int{3}, standing(one, set(0, 2, 3, 4, 6, 7, 8)).
		happens(205, 303, 106, done(4)))
}

// Where its Parent's Parent is a Parallel all of whose children but for histories
// are done: that one's number, too; where one of them isn't, it isn't told.

func TestAllRegionsDone(t *testing.T) {
	one := loudly(t, ends, to(5, 6), to(8, 9), to(1, 6, 9), within(4, 6), within(7, 8))
	none, left, right, both := set(0, 2, 3, 4, 5, 7, 8), set(0, 2, 3, 4, 6, 7, 8), set(0, 2, 3, 4, 5, 7, 9), set(0, 2, 3, 4, 6, 7, 9)
	checkStep(t, one, standing(one, none), []int{0}, standing(one, left).happens(205, 300, 106, done(4)))
	checkStep(t, one, standing(one, none), []int{1}, standing(one, right).happens(208, 301, 109, done(7)))
	checkStep(t, one, standing(one, left), []int{1}, standing(one, both).happens(208, 301, 109, done(7), done(3)))
	checkStep(t, one, standing(one, right), []int{0}, standing(one, both).happens(205, 300, 106, done(4), done(3)))
	checkStep(t, one, standing(one, both), []int{3}, standing(one, both).happens(206, 303, 106, done(4), done(3)))
	checkStep(t, one, standing(one, both), []int{4}, standing(one, left).happens(209, 304, 108))
}

// What is entered later in the same step isn't active yet: of two Finals just the
// second one finds all done.

func TestBothRegionsAtOnce(t *testing.T) {
	one := loudly(t, ends, to(5, 6), to(8, 9), to(1, 6, 9), within(7, 8))
	none, left, both := set(0, 2, 3, 4, 5, 7, 8), set(0, 2, 3, 4, 6, 7, 8), set(0, 2, 3, 4, 6, 7, 9)
	checkStep(t, one, standing(one, none), []int{0, 1}, standing(one, both).happens(208, 205, 300, 301, 106, done(4), 109, done(7), done(3)))
	checkStep(t, one, standing(one, none), []int{1, 0}, standing(one, both).happens(208, 205, 301, 300, 106, done(4), 109, done(7), done(3)))
	checkStep(t, one, standing(one, set(0, 1)), []int{2}, standing(one, both).
		happens(201, 302, 102, 103, 104, 106, done(4), 107, 109, done(7), done(3)))
	// And what was left in the same step isn't active any more.
	s := standing(one, set(0, 2, 3, 4, 5, 7, 9))
	checkStep(t, one, s, []int{0, 3}, standing(one, left).happens(209, 205, 300, 303, 106, done(4), 108))
}

// EventDone stands right behind what its Final's Entry actions raised, and ahead
// of what those of the next state raise.

func TestDoneBehindEntry(t *testing.T) {
	c := drawn(ends, to(1, 6, 9))
	c.States[6].Entry = []api.Act{raise(61), raise(62)}
	c.States[7].Entry = []api.Act{raise(71)}
	c.States[9].Entry = []api.Act{raise(91), raise(92)}
	one := planted(t, c)
	checkStep(t, one, standing(one, set(0, 1)).inside(5), []int{0},
		standing(one, set(0, 2, 3, 4, 6, 7, 9)).inside(5, 61, 62, done(4), 71, 91, 92, done(7), done(3)))
}

// A Parallel in a Parallel is done, if all its children are; a Final in one of
// these tells of the Parallel that its Parent is a child of, and of none further
// out.

func TestParallelInParallel(t *testing.T) {
	one := loudly(t, twice, to(3, 4), to(7, 8), to(10, 11))
	all := set(0, 1, 2, 5, 6, 9)
	for _, row := range []struct {
		leaves, l []int
		behind    []int
		happened  []int
	}{
		{[]int{3, 7, 10}, []int{0}, []int{4, 7, 10}, []int{203, 300, 104, done(2)}},
		{[]int{3, 8, 10}, []int{0}, []int{4, 8, 10}, []int{203, 300, 104, done(2)}},
		{[]int{3, 7, 11}, []int{0}, []int{4, 7, 11}, []int{203, 300, 104, done(2)}},
		{[]int{3, 8, 11}, []int{0}, []int{4, 8, 11}, []int{203, 300, 104, done(2), done(1)}},
		{[]int{4, 7, 10}, []int{1}, []int{4, 8, 10}, []int{207, 301, 108, done(6)}},
		{[]int{4, 7, 11}, []int{1}, []int{4, 8, 11}, []int{207, 301, 108, done(6), done(5)}},
		{[]int{4, 8, 10}, []int{2}, []int{4, 8, 11}, []int{210, 302, 111, done(9), done(5)}},
		{[]int{3, 8, 10}, []int{0, 2}, []int{4, 8, 11}, []int{210, 203, 300, 302, 104, done(2), 111, done(9), done(5)}},
		{[]int{3, 7, 10}, []int{0, 1, 2}, []int{4, 8, 11}, []int{210, 207, 203, 300, 301, 302, 104, done(2), 108, done(6), 111, done(9), done(5)}},
	} {
		checkStep(t, one, standing(one, all|set(row.leaves...)), row.l, standing(one, all|set(row.behind...)).happens(row.happened...))
	}
}

// The inner one may stand ahead of the outer one's other children: then the last
// Final of all tells of both.

func TestTheInnerParallelFirst(t *testing.T) {
	one := loudly(t, "C(P(P(C(A F) S C(A F)) C(A F)))", to(4, 5), to(8, 9), to(11, 12))
	conf := set(0, 1, 2, 3, 7, 10)
	checkStep(t, one, standing(one, conf|set(4, 8, 11)), []int{0, 1, 2}, standing(one, conf|set(5, 9, 12)).
		happens(211, 208, 204, 300, 301, 302, 105, done(3), 109, done(7), done(2), 112, done(10), done(1)))
}

// A Parallel with a child that is neither Compound nor Parallel never is done;
// nor is a Compound in which just one further in has a Final that is active.

func TestNeverDone(t *testing.T) {
	one := loudly(t, "C(P(C(A F) A))", to(3, 4))
	checkStep(t, one, standing(one, set(0, 1, 2, 3, 5)), []int{0}, standing(one, set(0, 1, 2, 4, 5)).happens(203, 300, 104, done(2)))
	one = loudly(t, "C(P(C(A F) C(C(A F) A F)))", to(3, 4), to(7, 8), to(6, 10))
	checkStep(t, one, standing(one, set(0, 1, 2, 3, 5, 6, 8)), []int{0}, standing(one, set(0, 1, 2, 4, 5, 6, 8)).happens(203, 300, 104, done(2)))
	checkStep(t, one, standing(one, set(0, 1, 2, 4, 5, 6, 7)), []int{1}, standing(one, set(0, 1, 2, 4, 5, 6, 8)).happens(207, 301, 108, done(6)))
	checkStep(t, one, standing(one, set(0, 1, 2, 4, 5, 6, 7)), []int{2}, standing(one, set(0, 1, 2, 4, 5, 10)).
		happens(207, 206, 302, 110, done(5), done(1)))
}

// Histories among the children of a Parallel are no children that must be done;
// nor does it hang on whether they have a set.

func TestHistoriesAmongChildren(t *testing.T) {
	for _, s := range []string{"C(P(S C(A F) D C(A F) S D) A)", "C(P(D C(A F) S C(A F)) A)"} {
		one := loudly(t, s, to(4, 5), to(8, 9))
		conf := set(0, 1, 3, 7)
		checkStep(t, one, standing(one, conf|set(4, 9)), []int{0}, standing(one, conf|set(5, 9)).happens(204, 300, 105, done(3), done(1)))
		checkStep(t, one, standing(one, conf|set(5, 8)), []int{1}, standing(one, conf|set(5, 9)).happens(208, 301, 109, done(7), done(1)))
		checkStep(t, one, standing(one, conf|set(4, 8)), []int{1}, standing(one, conf|set(4, 9)).happens(208, 301, 109, done(7)))
		kept := func(leaves ...int) session { return standing(one, conf|set(leaves...)).keeps(2, 3, 7).keeps(6, 4, 8) }
		checkStep(t, one, kept(4, 9), []int{0}, kept(5, 9).happens(204, 300, 105, done(3), done(1)))
	}
}

// A Final that stays active is not entered again: no event tells of it twice.

func TestFinalThatStays(t *testing.T) {
	one := loudly(t, ends, to(8, 9), from(4))
	s := standing(one, set(0, 2, 3, 4, 6, 7, 8))
	checkStep(t, one, s, []int{1}, s.happens(301))
	checkStep(t, one, s, []int{0}, s.at(0, 2, 3, 4, 6, 7, 9).happens(208, 300, 109, done(7), done(3)))
}

// Ended stays behind steps that don't end: a step asks for no Status.

func TestStatusStays(t *testing.T) {
	one := loudly(t, ends, to(1, 13), to(1, 12), from(1))
	for _, status := range []int{api.Going, api.Ended, api.Failed, 0, -1, 77} {
		s := standing(one, set(0, 1)).as(status)
		checkStep(t, one, s, []int{0}, s.at(0, 13).happens(201, 300, 113).as(api.Ended))
		checkStep(t, one, s, []int{1}, s.at(0, 2, 12).happens(201, 301, 102, 112, done(2)))
		checkStep(t, one, s, []int{2}, s.happens(302))
		checkStep(t, one, s, nil, s)
	}
}

// The numbers of the first and the last states that events may tell of.

func TestDoneNumbers(t *testing.T) {
	one := loudly(t, "C(C(A F))", to(2, 3))
	checkStep(t, one, standing(one, set(0, 1, 2)), []int{0}, standing(one, set(0, 1, 3)).happens(202, 300, 103, 2001))
	one = loudly(t, "C(P("+chainOf(18)+" C(A F)))", to(22, 23))
	conf := set(0, 1, 21)
	checkStep(t, one, standing(one, conf|set(22)), []int{0}, standing(one, conf|set(23)).happens(222, 300, 123, 2021))
}

// chainOf is so many Compounds, each in the one ahead of it, and an Atomic.
func chainOf(n int) string {
	s := "A"
	for range n {
		s = "C(" + s + ")"
	}
	return s
}
