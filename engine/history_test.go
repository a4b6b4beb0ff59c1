package engine_test

import "testing"

// past is a Compound and a Parallel, each with a Shallow history and a Deep one:
//
//	0 C
//	  1 A
//	  2 C
//	    3 A
//	    4 C
//	      5 A
//	      6 F
//	    7 S
//	    8 D
//	  9 P
//	    10 C
//	      11 A
//	      12 A
//	    13 C
//	      14 A
//	      15 C
//	        16 A
//	        17 F
//	    18 S
//	    19 D
//	  20 A
const past = "C(A C(A C(A F) S D) P(C(A A) C(A C(A F)) S D) A)"

// Events of pastTwin, by what they do.
const (
	outOf2 = 1 + iota
	outOf9
	toShallow2
	toDeep2
	toShallow9
	toDeep9
	againShallow2
	againDeep2
	againShallow9
	againDeep9
	from4to3
	from5to6
	within2to4
	outOf6
)

func pastTwin(t *testing.T) twin {
	t.Helper()
	return loudly(t, past,
		on(outOf2, 2, 1), on(outOf9, 9, 1), on(toShallow2, 1, 7), on(toDeep2, 1, 8), on(toShallow9, 1, 18), on(toDeep9, 1, 19),
		on(againShallow2, 2, 7), on(againDeep2, 2, 8), on(againShallow9, 9, 18), on(againDeep9, 10, 19),
		on(from4to3, 4, 3), on(from5to6, 5, 6), within(on(within2to4, 2, 4)), on(outOf6, 4, 20))
}

// P15.1: of a state that is left the histories' sets become what is active in it,
// of a Compound, and of a Parallel.

func TestRecorded(t *testing.T) {
	one := pastTwin(t)
	out := standing(one, set(0, 1))
	for _, row := range []struct {
		conf  []int
		event int
		want  session
	}{
		{[]int{0, 2, 3}, outOf2, out.keeps(7, 3).keeps(8, 3).logs(203, 202, 300, 101)},
		{[]int{0, 2, 4, 5}, outOf2, out.keeps(7, 4).keeps(8, 5).logs(205, 204, 202, 300, 101)},
		{[]int{0, 2, 4, 6}, outOf2, out.keeps(7, 4).keeps(8, 6).logs(206, 204, 202, 300, 101)},
		{[]int{0, 9, 10, 11, 13, 14}, outOf9, out.keeps(18, 10, 13).keeps(19, 11, 14).logs(214, 213, 211, 210, 209, 301, 101)},
		{[]int{0, 9, 10, 12, 13, 15, 17}, outOf9, out.keeps(18, 10, 13).keeps(19, 12, 17).logs(217, 215, 213, 212, 210, 209, 301, 101)},
		{[]int{0, 2, 4, 5}, outOf6, standing(one, set(0, 20)).keeps(7, 4).keeps(8, 5).logs(205, 204, 202, 313, 120)},
	} {
		checkTake(t, one, standing(one, set(row.conf...)), row.event, row.want)
	}
}

// A set stands till the history's Parent is left again. Of a state of which just a
// part is left it stays, and so do those of other states.

func TestRecordedOfWhatIsLeftAlone(t *testing.T) {
	one := pastTwin(t)
	old := func(conf ...int) session {
		return standing(one, set(conf...)).keeps(7, 4).keeps(8, 6).keeps(18, 10, 13).keeps(19, 12, 17)
	}
	checkTake(t, one, old(0, 2, 4, 5), from4to3, old(0, 2, 3).logs(205, 204, 310, 103))
	checkTake(t, one, old(0, 2, 4, 5), from5to6, old(0, 2, 4, 6).logs(205, 311, 106))
	checkTake(t, one, old(0, 2, 3), within2to4, old(0, 2, 4, 5).logs(203, 312, 104, 105))
	checkTake(t, one, old(0, 2, 3), outOf2, old(0, 1).keeps(7, 3).keeps(8, 3).logs(203, 202, 300, 101))
	checkTake(t, one, old(0, 9, 10, 11, 13, 14), outOf9, old(0, 1).keeps(19, 11, 14).logs(214, 213, 211, 210, 209, 301, 101))
	checkTake(t, one, old(0, 1), outOf2, old(0, 1))
}

// A history among the Targets is what it has; below that a Shallow one goes on by
// default.

func TestToAHistory(t *testing.T) {
	one := pastTwin(t)
	of := func(conf ...int) session {
		return standing(one, set(conf...)).keeps(7, 4).keeps(8, 6).keeps(18, 10, 13).keeps(19, 12, 17)
	}
	checkTake(t, one, of(0, 1), toShallow2, of(0, 2, 4, 5).logs(201, 302, 102, 104, 105))
	checkTake(t, one, of(0, 1), toDeep2, of(0, 2, 4, 6).logs(201, 303, 102, 104, 106))
	checkTake(t, one, of(0, 1), toShallow9, of(0, 9, 10, 11, 13, 14).logs(201, 304, 109, 110, 111, 113, 114))
	checkTake(t, one, of(0, 1), toDeep9, of(0, 9, 10, 12, 13, 15, 17).logs(201, 305, 109, 110, 112, 113, 115, 117))
}

// With no set it is its Initial, with what is between, and the other regions.

func TestToAnEmptyHistory(t *testing.T) {
	one := pastTwin(t)
	out := standing(one, set(0, 1))
	checkTake(t, one, out, toShallow2, standing(one, set(0, 2, 3)).logs(201, 302, 102, 103))
	checkTake(t, one, out, toDeep2, standing(one, set(0, 2, 3)).logs(201, 303, 102, 103))
	checkTake(t, one, out, toShallow9, standing(one, set(0, 9, 10, 11, 13, 14)).logs(201, 304, 109, 110, 111, 113, 114))
	checkTake(t, one, out, toDeep9, standing(one, set(0, 9, 10, 11, 13, 14)).logs(201, 305, 109, 110, 111, 113, 114))
	// 2 C (3 A, 4 P (5 C (6, 7), 8 C (9, 10)), 11 D for 7, 12 S for 4)
	between := loudly(t, "C(A C(A P(C(A A) C(A A)) D7 S4))", on(7, 1, 11), on(8, 1, 12))
	out = standing(between, set(0, 1))
	checkTake(t, between, out, 7, standing(between, set(0, 2, 4, 5, 7, 8, 9)).logs(201, 300, 102, 104, 105, 107, 108, 109))
	checkTake(t, between, out, 8, standing(between, set(0, 2, 4, 5, 6, 8, 9)).logs(201, 301, 102, 104, 105, 106, 108, 109))
}

// A history counts as its Parent: a transition to it from what is in that one, or
// from that one itself, leaves it whole; and it is set in the very step that goes to
// it, so that what was active is entered again, whatever the set was.

func TestSetInTheStepThatGoesToIt(t *testing.T) {
	one := pastTwin(t)
	old := func(conf ...int) session {
		return standing(one, set(conf...)).keeps(7, 3).keeps(8, 3).keeps(18, 10, 13).keeps(19, 11, 14)
	}
	checkTake(t, one, old(0, 2, 4, 6), againShallow2, old(0, 2, 4, 5).keeps(7, 4).keeps(8, 6).logs(206, 204, 202, 306, 102, 104, 105))
	checkTake(t, one, old(0, 2, 4, 6), againDeep2, old(0, 2, 4, 6).keeps(7, 4).keeps(8, 6).logs(206, 204, 202, 307, 102, 104, 106))
	checkTake(t, one, old(0, 2, 3), againDeep2, old(0, 2, 3).logs(203, 202, 307, 102, 103))
	checkTake(t, one, old(0, 9, 10, 12, 13, 15, 17), againShallow9, old(0, 9, 10, 11, 13, 14).keeps(19, 12, 17).
		logs(217, 215, 213, 212, 210, 209, 308, 109, 110, 111, 113, 114))
	checkTake(t, one, old(0, 9, 10, 12, 13, 15, 16), againDeep9, old(0, 9, 10, 12, 13, 15, 16).keeps(19, 12, 16).
		logs(216, 215, 213, 212, 210, 209, 309, 109, 110, 112, 113, 115, 116))
}

// Histories of states that are left, one in the other, are set from what was active
// ahead of the step.

func TestRecordedAheadOfAll(t *testing.T) {
	checkTakings(t,
		taking{on(7, 3, 21), inner, []int64{217, 216, 214, 212, 210, 209, 208, 205, 204, 203, 300, 121}, set(0, 2, 21), kept3},
		taking{on(7, 2, 1), inner, []int64{217, 216, 214, 212, 210, 209, 208, 205, 204, 203, 202, 300, 101}, set(0, 1), kept2},
		taking{on(7, 4, 15), inner, []int64{217, 216, 214, 212, 210, 209, 208, 205, 204, 203, 300, 103, 104, 105, 108, 109, 110, 112, 114, 115},
			inner&^set(16, 17) | set(15), kept3},
	)
}

// Several histories in one state.

func TestSeveralHistories(t *testing.T) {
	one := loudly(t, "C(A C(S A C(A A) D S D))", on(7, 2, 1), on(8, 1, 8), on(8, 2, 9), on(9, 1, 9))
	s := standing(one, set(0, 2, 5, 7)).taken(one, 7)
	checkSame(t, "out", s, standing(one, set(0, 1)).keeps(3, 5).keeps(8, 7).keeps(9, 5).keeps(10, 7).logs(207, 205, 202, 300, 101))
	checkTake(t, one, s, 8, session{Run: s.Run}.at(0, 2, 5, 7).logs(201, 301, 102, 105, 107))
	checkTake(t, one, s, 9, session{Run: s.Run}.at(0, 2, 5, 6).logs(201, 303, 102, 105, 106))
}

// at is with just these states active.
func (s session) at(conf ...int) session {
	s.Conf, s.outs = set(conf...), nil
	return s
}

// A history beside other Targets, in other regions; those tell what is in theirs.

func TestAHistoryBesideOthers(t *testing.T) {
	const wide = "C(A P(C(A A S) C(A C(A A) D) C(A A)))" // 2 P; 3 C (4, 5, 6 S), 7 C (8, 9 C (10, 11), 12 D), 13 C (14, 15)
	one := loudly(t, wide, on(7, 1, 6, 12), on(8, 1, 12, 15), on(9, 1, 15, 6, 12), on(10, 1, 12, 6))
	empty := standing(one, set(0, 1))
	s := empty.keeps(6, 5).keeps(12, 11)
	for _, event := range []int{7, 10} {
		i := map[int]int64{7: 300, 10: 303}[event]
		checkTake(t, one, empty, event, empty.at(0, 2, 3, 4, 7, 8, 13, 14).logs(201, i, 102, 103, 104, 107, 108, 113, 114))
		checkTake(t, one, s, event, s.at(0, 2, 3, 5, 7, 9, 11, 13, 14).logs(201, i, 102, 103, 105, 107, 109, 111, 113, 114))
	}
	checkTake(t, one, empty, 8, empty.at(0, 2, 3, 4, 7, 8, 13, 15).logs(201, 301, 102, 103, 104, 107, 108, 113, 115))
	checkTake(t, one, s, 8, s.at(0, 2, 3, 4, 7, 9, 11, 13, 15).logs(201, 301, 102, 103, 104, 107, 109, 111, 113, 115))
	checkTake(t, one, s, 9, s.at(0, 2, 3, 5, 7, 9, 11, 13, 15).logs(201, 302, 102, 103, 105, 107, 109, 111, 113, 115))
}

// The session's own way: out, and in again by a history, over several events.

func TestInAgain(t *testing.T) {
	one := pastTwin(t)
	s := started(one)
	for _, row := range []struct {
		event int
		conf  []int
	}{
		{toDeep2, []int{0, 2, 3}}, {within2to4, []int{0, 2, 4, 5}}, {from5to6, []int{0, 2, 4, 6}}, {outOf2, []int{0, 1}},
		{toShallow2, []int{0, 2, 4, 5}}, {outOf2, []int{0, 1}}, {toDeep2, []int{0, 2, 4, 5}}, {from4to3, []int{0, 2, 3}},
		{againDeep2, []int{0, 2, 3}}, {outOf2, []int{0, 1}}, {toDeep9, []int{0, 9, 10, 11, 13, 14}}, {againDeep9, []int{0, 9, 10, 11, 13, 14}},
	} {
		next := s.taken(one, row.event)
		checkTake(t, one, s, row.event, next)
		if next.Conf != set(row.conf...) {
			t.Errorf("behind event %d active are %v, want %v", row.event, members(next.Conf), row.conf)
		}
		s = next
	}
}
