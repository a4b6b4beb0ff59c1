package engine_test

import (
	"strconv"
	"testing"

	"spinet/api"
)

// twice has a Parallel in a Parallel:
//
//	0 C
//	  1 P
//	    2 C
//	      3 A
//	      4 F
//	    5 P
//	      6 C
//	        7 A
//	        8 F
//	      9 C
//	        10 A
//	        11 F
//	      12 S
//	    13 D
//	  14 A
const twice = "C(P(C(A F) P(C(A F) C(A F) S) D) A)"

// echoing is of such a chart with actions that tell where they were done, and with
// transitions from one state that log each event that tells what is done, and each
// that tells of a mishap.
func echoing(t *testing.T, s string, source int, trans ...api.Trans) twin {
	t.Helper()
	c := loud(drawn(s, trans...))
	for k, one := range c.States {
		if one.Kind == api.Compound || one.Kind == api.Parallel {
			c.Trans = append(c.Trans, does(on(done(k), source), log(strconv.Itoa(done(k)))))
		}
	}
	c.Trans = append(c.Trans, does(on(api.EventError, source), log("1001")))
	return made(t, c)
}

// P15.1: a Final whose Parent isn't the first state: EventDone and its Parent's
// number comes inside.

func TestDone(t *testing.T) {
	one := echoing(t, ends, 2, on(7, 3, 12), on(7, 1, 12), on(8, 1, 6), on(8, 5, 6))
	s := standing(one, set(0, 2, 3, 4, 5, 7, 8))
	checkTake(t, one, s, 7, s.at(0, 2, 12).keeps(10, 8).keeps(11, 5, 8).logs(208, 207, 205, 204, 203, 300, 112, 2002))
	checkTake(t, one, s, 8, s.at(0, 2, 3, 4, 6, 7, 8).logs(205, 303, 106, 2004))
	s = s.at(0, 1)
	checkTake(t, one, s, 7, s.at(0, 2, 12).logs(201, 301, 102, 112, 2002))
	checkTake(t, one, s, 8, s.at(0, 2, 3, 4, 6, 7, 8).logs(201, 302, 102, 103, 104, 106, 107, 108, 2004))
}

// A Parallel is done, once all its children but for histories are: what tells of it
// stands behind what tells of the last one.

func TestAParallelThatIsDone(t *testing.T) {
	one := echoing(t, ends, 2, on(7, 5, 6), on(8, 8, 9), within(on(9, 4, 6)), within(on(9, 7, 8)), on(10, 1, 6, 9), on(11, 5, 6), on(11, 8, 9))
	s := standing(one, set(0, 2, 3, 4, 5, 7, 8))
	left, right, both := s.at(0, 2, 3, 4, 6, 7, 8), s.at(0, 2, 3, 4, 5, 7, 9), s.at(0, 2, 3, 4, 6, 7, 9)
	checkTake(t, one, s, 7, left.logs(205, 300, 106, 2004))
	checkTake(t, one, s, 8, right.logs(208, 301, 109, 2007))
	checkTake(t, one, left, 8, both.logs(208, 301, 109, 2007, 2003))
	checkTake(t, one, right, 7, both.logs(205, 300, 106, 2004, 2003))
	checkTake(t, one, s, 11, both.logs(208, 205, 305, 306, 106, 109, 2004, 2007, 2003))
	checkTake(t, one, s.at(0, 1), 10, both.logs(201, 304, 102, 103, 104, 106, 107, 109, 2004, 2007, 2003))
	// What was left in the same step isn't active any more.
	checkTake(t, one, right, 9, left.logs(209, 205, 302, 303, 106, 108, 2004))
	checkTake(t, one, both, 9, left.logs(209, 206, 302, 303, 106, 108, 2004))
}

// A Parallel in a Parallel is done, if all its children are; a Final tells of the
// Parallel that its Parent is a child of, and of none further out.

func TestAParallelInAParallel(t *testing.T) {
	one := echoing(t, twice, 1, on(7, 3, 4), on(8, 7, 8), on(9, 10, 11), on(10, 3, 4), on(10, 10, 11), on(11, 3, 4), on(11, 7, 8), on(11, 10, 11))
	in := standing(one, set(0, 1, 2, 5, 6, 9))
	for _, row := range []struct {
		leaves []int
		event  int
		behind []int
		logs   []int64
	}{
		{[]int{3, 7, 10}, 7, []int{4, 7, 10}, []int64{203, 300, 104, 2002}},
		{[]int{3, 8, 10}, 7, []int{4, 8, 10}, []int64{203, 300, 104, 2002}},
		{[]int{3, 7, 11}, 7, []int{4, 7, 11}, []int64{203, 300, 104, 2002}},
		{[]int{3, 8, 11}, 7, []int{4, 8, 11}, []int64{203, 300, 104, 2002, 2001}},
		{[]int{4, 7, 10}, 8, []int{4, 8, 10}, []int64{207, 301, 108, 2006}},
		{[]int{4, 7, 11}, 8, []int{4, 8, 11}, []int64{207, 301, 108, 2006, 2005}},
		{[]int{4, 8, 10}, 9, []int{4, 8, 11}, []int64{210, 302, 111, 2009, 2005}},
		{[]int{3, 8, 10}, 10, []int{4, 8, 11}, []int64{210, 203, 303, 304, 104, 111, 2002, 2009, 2005}},
		{[]int{3, 7, 10}, 11, []int{4, 8, 11}, []int64{210, 207, 203, 305, 306, 307, 104, 108, 111, 2002, 2006, 2009, 2005}},
	} {
		checkTake(t, one, in.and(row.leaves...), row.event, in.and(row.behind...).logs(row.logs...))
	}
}

// The inner one may stand ahead of the outer one's other children: then the last
// Final of all tells of the outer one.

func TestTheInnerParallelFirst(t *testing.T) {
	one := echoing(t, "C(P(P(C(A F) S C(A F)) C(A F)))", 1, on(7, 4, 5), on(7, 8, 9), on(7, 11, 12))
	s := standing(one, set(0, 1, 2, 3, 7, 10))
	checkTake(t, one, s.and(4, 8, 11), 7, s.and(5, 9, 12).logs(211, 208, 204, 300, 301, 302, 105, 109, 112, 2003, 2007, 2002, 2010, 2001))
}

// A Parallel with a child that is neither a Compound nor a Parallel never is; nor
// is a Compound in which just one further in has a Final that is active.

func TestNeverDone(t *testing.T) {
	one := echoing(t, "C(P(C(A F) A))", 1, on(7, 3, 4))
	s := standing(one, set(0, 1, 2, 3, 5))
	checkTake(t, one, s, 7, s.at(0, 1, 2, 4, 5).logs(203, 300, 104, 2002))
	one = echoing(t, "C(P(C(A F) C(C(A F) A F)))", 1, on(7, 3, 4), on(8, 7, 8), on(9, 6, 10))
	s = standing(one, set(0, 1, 2, 5, 6))
	checkTake(t, one, s.and(3, 8), 7, s.and(4, 8).logs(203, 300, 104, 2002))
	checkTake(t, one, s.and(4, 7), 8, s.and(4, 8).logs(207, 301, 108, 2006))
	checkTake(t, one, s.and(4, 7), 9, s.without(6).and(4, 10).logs(207, 206, 302, 110, 2005, 2001))
}

// Histories among the children of a Parallel are none that must be done.

func TestHistoriesAmongChildren(t *testing.T) {
	for _, s := range []string{"C(P(S C(A F) D C(A F) S D) A)", "C(P(D C(A F) S C(A F)) A)"} {
		one := echoing(t, s, 1, on(7, 4, 5), on(8, 8, 9))
		in := standing(one, set(0, 1, 3, 7)).keeps(2, 3, 7).keeps(6, 4, 8)
		checkTake(t, one, in.and(4, 9), 7, in.and(5, 9).logs(204, 300, 105, 2003, 2001))
		checkTake(t, one, in.and(5, 8), 8, in.and(5, 9).logs(208, 301, 109, 2007, 2001))
		checkTake(t, one, in.and(4, 8), 8, in.and(4, 9).logs(208, 301, 109, 2007))
	}
}

// A Final that stays active is not entered again: nothing tells of it twice.

func TestAFinalThatStays(t *testing.T) {
	one := echoing(t, ends, 2, on(7, 8, 9), on(8, 4))
	s := standing(one, set(0, 2, 3, 4, 6, 7, 8))
	checkTake(t, one, s, 8, s.logs(301))
	checkTake(t, one, s, 7, s.at(0, 2, 3, 4, 6, 7, 9).logs(208, 300, 109, 2007, 2003))
}

// What tells of it stands right behind what its Entry actions raised, and ahead of
// what those of the next state raise; a mishap there changes nothing of that. As
// the session has Ended, all is still inside.

func TestDoneBehindEntry(t *testing.T) {
	c := drawn("C(A P(C(A F) C(A F)) F)", on(7, 1, 5, 8), on(0, 2, 9))
	c.States[5].Entry = raises(51, 52)
	c.States[6].Entry = raises(61)
	c.States[8].Entry = []api.Act{raise(81), log("1/0"), raise(82)}
	one := made(t, c)
	checkTake(t, one, standing(one, set(0, 1)).inside(5), 7,
		standing(one, set(0, 9)).inside(5, 51, 52, done(3), 61, 81, api.EventError, done(6), done(2)).as(api.Ended))
}

// A Final of the first state: the session has Ended, nothing tells of that, and
// what was inside stays there.

func TestTheEnd(t *testing.T) {
	one := echoing(t, ends, 2, on(7, 1, 13), on(7, 2, 13), on(8, 1, 12))
	checkTake(t, one, standing(one, set(0, 1)), 7, standing(one, set(0, 13)).logs(201, 300, 113).as(api.Ended))
	checkTake(t, one, standing(one, set(0, 1)).inside(8, 9), 7, standing(one, set(0, 13)).logs(201, 300, 113).inside(8, 9).as(api.Ended))
	checkTake(t, one, standing(one, set(0, 2, 3, 4, 6, 7, 9)), 7, standing(one, set(0, 13)).
		logs(209, 207, 206, 204, 203, 202, 301, 113).keeps(10, 9).keeps(11, 6, 9).as(api.Ended))
}

// The greatest number that is told of.

func TestDoneOfTheLastCompound(t *testing.T) {
	one := echoing(t, "C(P("+chainOf(18)+" C(A F)))", 1, on(7, 22, 23))
	s := standing(one, set(0, 1, 21))
	checkTake(t, one, s.and(22), 7, s.and(23).logs(222, 300, 123, 2021))
}

// chainOf is so many Compounds, each in the one ahead of it, and an Atomic.
func chainOf(n int) string {
	s := "A"
	for range n {
		s = "C(" + s + ")"
	}
	return s
}
