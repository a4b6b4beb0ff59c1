package micro_test

import (
	"testing"

	"spinet/api"
	"spinet/tree"
)

// past is a Compound and a Parallel, each with a Shallow history and a Deep one:
//
//	0 C
//	  1 A
//	  2 C
//	    3 A
//	    4 C
//	      5 A
//	      6 F
//	    7 S
//	    8 D
//	  9 P
//	    10 C
//	      11 A
//	      12 A
//	    13 C
//	      14 A
//	      15 C
//	        16 A
//	        17 F
//	    18 S
//	    19 D
//	  20 A
const past = "C(A C(A C(A F) S D) P(C(A A) C(A C(A F)) S D) A)"

// Transitions of past, by what they are from and to.
const (
	outOf2 = iota
	outOf9
	toShallow2
	toDeep2
	toShallow9
	toDeep9
	again2Shallow
	again2Deep
	again9Shallow
	again9Deep
	from4to3
	from5to6
	within2to4
	outOf6
)

func pastTree(t *testing.T) *tree.Tree {
	t.Helper()
	return loudly(t, past,
		to(2, 1), to(9, 1), to(1, 7), to(1, 8), to(1, 18), to(1, 19), to(2, 7), to(2, 8), to(9, 18), to(10, 19),
		to(4, 3), to(5, 6), within(2, 4), to(4, 20))
}

// P12.1: of a state that is left the histories' sets become what is active in it,
// with a Compound, and with a Parallel.

func TestRecorded(t *testing.T) {
	one := pastTree(t)
	out := standing(one, set(0, 1))
	for _, row := range []struct {
		conf  []int
		trans int
		want  session
	}{
		{[]int{0, 2, 3}, outOf2, out.keeps(7, 3).keeps(8, 3).happens(203, 202, 300, 101)},
		{[]int{0, 2, 4, 5}, outOf2, out.keeps(7, 4).keeps(8, 5).happens(205, 204, 202, 300, 101)},
		{[]int{0, 2, 4, 6}, outOf2, out.keeps(7, 4).keeps(8, 6).happens(206, 204, 202, 300, 101)},
		{[]int{0, 9, 10, 11, 13, 14}, outOf9, out.keeps(18, 10, 13).keeps(19, 11, 14).happens(214, 213, 211, 210, 209, 301, 101)},
		{[]int{0, 9, 10, 12, 13, 15, 17}, outOf9, out.keeps(18, 10, 13).keeps(19, 12, 17).happens(217, 215, 213, 212, 210, 209, 301, 101)},
		{[]int{0, 2, 4, 5}, outOf6, standing(one, set(0, 20)).keeps(7, 4).keeps(8, 5).happens(205, 204, 202, 313, 120)},
	} {
		checkStep(t, one, standing(one, set(row.conf...)), []int{row.trans}, row.want)
	}
}

// A history's set stands till its Parent is left again; then it becomes a new
// one. Of a state of which just a part is left it stays, and so do those of other
// states.

func TestRecordedOfWhatIsLeftAlone(t *testing.T) {
	one := pastTree(t)
	old := func(conf ...int) session {
		return standing(one, set(conf...)).keeps(7, 4).keeps(8, 6).keeps(18, 10, 13).keeps(19, 12, 17)
	}
	checkStep(t, one, old(0, 2, 4, 5), []int{from4to3}, old(0, 2, 3).happens(205, 204, 310, 103))
	checkStep(t, one, old(0, 2, 4, 5), []int{from5to6}, old(0, 2, 4, 6).happens(205, 311, 106, done(4)))
	checkStep(t, one, old(0, 2, 3), []int{within2to4}, old(0, 2, 4, 5).happens(203, 312, 104, 105))
	checkStep(t, one, old(0, 2, 3), []int{outOf2}, old(0, 1).keeps(7, 3).keeps(8, 3).happens(203, 202, 300, 101))
	checkStep(t, one, old(0, 9, 10, 11, 13, 14), []int{outOf9}, old(0, 1).keeps(19, 11, 14).happens(214, 213, 211, 210, 209, 301, 101))
	checkStep(t, one, old(0, 1), []int{outOf2, outOf9}, old(0, 1).happens(201, 300, 301, 101))
}

// Read again by a transition to them, each as it was recorded; a Shallow one goes
// on by default below it.

func TestReadAgain(t *testing.T) {
	one := pastTree(t)
	of := func(conf ...int) session {
		return standing(one, set(conf...)).keeps(7, 4).keeps(8, 6).keeps(18, 10, 13).keeps(19, 12, 17)
	}
	checkStep(t, one, of(0, 1), []int{toShallow2}, of(0, 2, 4, 5).happens(201, 302, 102, 104, 105))
	checkStep(t, one, of(0, 1), []int{toDeep2}, of(0, 2, 4, 6).happens(201, 303, 102, 104, 106, done(4)))
	checkStep(t, one, of(0, 1), []int{toShallow9}, of(0, 9, 10, 11, 13, 14).happens(201, 304, 109, 110, 111, 113, 114))
	checkStep(t, one, of(0, 1), []int{toDeep9}, of(0, 9, 10, 12, 13, 15, 17).happens(201, 305, 109, 110, 112, 113, 115, 117, done(15)))
}

// One that was never recorded stands for its Initial.

func TestNeverRecorded(t *testing.T) {
	one := pastTree(t)
	out := standing(one, set(0, 1))
	checkStep(t, one, out, []int{toShallow2}, standing(one, set(0, 2, 3)).happens(201, 302, 102, 103))
	checkStep(t, one, out, []int{toDeep2}, standing(one, set(0, 2, 3)).happens(201, 303, 102, 103))
	checkStep(t, one, out, []int{toShallow9}, standing(one, set(0, 9, 10, 11, 13, 14)).happens(201, 304, 109, 110, 111, 113, 114))
	checkStep(t, one, out, []int{toDeep9}, standing(one, set(0, 9, 10, 11, 13, 14)).happens(201, 305, 109, 110, 111, 113, 114))
}

// One that is recorded and entered in the same step stands for what it has now,
// whatever it had.

func TestRecordedAndEntered(t *testing.T) {
	one := pastTree(t)
	old := func(conf ...int) session {
		return standing(one, set(conf...)).keeps(7, 3).keeps(8, 3).keeps(18, 10, 13).keeps(19, 11, 14)
	}
	two := old(0, 2, 4, 6)
	checkStep(t, one, two, []int{again2Shallow}, old(0, 2, 4, 5).keeps(7, 4).keeps(8, 6).happens(206, 204, 202, 306, 102, 104, 105))
	checkStep(t, one, two, []int{again2Deep}, old(0, 2, 4, 6).keeps(7, 4).keeps(8, 6).happens(206, 204, 202, 307, 102, 104, 106, done(4)))
	nine := old(0, 9, 10, 12, 13, 15, 17)
	checkStep(t, one, nine, []int{again9Shallow}, old(0, 9, 10, 11, 13, 14).keeps(19, 12, 17).
		happens(217, 215, 213, 212, 210, 209, 308, 109, 110, 111, 113, 114))
	checkStep(t, one, nine, []int{again9Deep}, old(0, 9, 10, 12, 13, 15, 17).keeps(19, 12, 17).
		happens(217, 215, 213, 212, 210, 209, 309, 109, 110, 112, 113, 115, 117, done(15)))
}

// Out and in again, by hand, for each of the four.

func TestOutAndIn(t *testing.T) {
	one := pastTree(t)
	for _, row := range []struct {
		conf    []int
		out, in int
		behind  []int
	}{
		{[]int{0, 2, 3}, outOf2, toShallow2, []int{0, 2, 3}},
		{[]int{0, 2, 4, 6}, outOf2, toShallow2, []int{0, 2, 4, 5}},
		{[]int{0, 2, 4, 6}, outOf2, toDeep2, []int{0, 2, 4, 6}},
		{[]int{0, 2, 4, 6}, outOf2, toDeep9, []int{0, 9, 10, 11, 13, 14}},
		{[]int{0, 9, 10, 12, 13, 15, 17}, outOf9, toShallow9, []int{0, 9, 10, 11, 13, 14}},
		{[]int{0, 9, 10, 12, 13, 15, 17}, outOf9, toDeep9, []int{0, 9, 10, 12, 13, 15, 17}},
		{[]int{0, 9, 10, 11, 13, 15, 16}, outOf9, toDeep9, []int{0, 9, 10, 11, 13, 15, 16}},
		{[]int{0, 9, 10, 12, 13, 14}, outOf9, toDeep9, []int{0, 9, 10, 12, 13, 14}},
		{[]int{0, 9, 10, 12, 13, 14}, outOf9, toDeep2, []int{0, 2, 3}},
	} {
		s := standing(one, set(row.conf...)).stepped(one, row.out).stepped(one, row.in)
		if s.Conf != set(row.behind...) {
			t.Errorf("from %v out by %d and in by %d active is %v, want %v", row.conf, row.out, row.in, members(s.Conf), row.behind)
		}
	}
}

// Histories of states that are left, one in the other: all are recorded from what
// was active ahead of the step, and ahead of all Exit actions.

func TestRecordedAheadOfAll(t *testing.T) {
	one := loudly(t, nest, to(3, 21), to(2, 1), to(4, 6))
	down := []int{217, 216, 214, 212, 210, 209, 208, 205, 204, 203}
	want := standing(one, set(0, 2, 21)).keeps(7, 5).keeps(13, 10, 12).keeps(19, 17)
	checkStep(t, one, standing(one, inner), []int{0}, want.happens(down...).happens(300, 121))
	want = standing(one, set(0, 1)).keeps(7, 5).keeps(13, 10, 12).keeps(19, 17).keeps(20, 3)
	checkStep(t, one, standing(one, inner), []int{1}, want.happens(down...).happens(202, 301, 101))
	want = standing(one, inner&^set(5, 16, 17)|set(6, 15)).keeps(7, 5).keeps(13, 10, 12).keeps(19, 17)
	checkStep(t, one, standing(one, inner), []int{2}, want.happens(down...).happens(302, 103, 104, 106, 108, 109, 110, 112, 114, 115))
}

// Several histories in one state, and of one Kind: each is recorded.

func TestSeveralHistories(t *testing.T) {
	one := loudly(t, "C(A C(S A C(A A) D S D))", to(2, 1))
	want := standing(one, set(0, 1)).keeps(3, 5).keeps(8, 7).keeps(9, 5).keeps(10, 7)
	checkStep(t, one, standing(one, set(0, 2, 5, 7)), []int{0}, want.happens(207, 205, 202, 300, 101))
	want = standing(one, set(0, 1)).keeps(3, 4).keeps(8, 4).keeps(9, 4).keeps(10, 4)
	checkStep(t, one, standing(one, set(0, 2, 4)), []int{0}, want.happens(204, 202, 300, 101))
}

// Of a set that isn't whole a history has just what is active: several leaves, or
// none; an empty set stands for what it stood for when nothing was recorded.

func TestRecordedOfWhatIsNotWhole(t *testing.T) {
	one := pastTree(t)
	old := standing(one, 0).keeps(7, 4).keeps(8, 6)
	s := old
	s.Conf = set(0, 2)
	want := standing(one, set(0, 1)).happens(202, 300, 101)
	checkStep(t, one, s, []int{outOf2}, want)
	s.Conf = set(2, 3, 4, 5, 6)
	want = standing(one, set(1)).keeps(7, 3, 4).keeps(8, 3, 5, 6).happens(206, 205, 204, 203, 202, 300, 101)
	checkStep(t, one, s, []int{outOf2}, want)
	s.Conf = set(2, 5)
	want = standing(one, set(1)).keeps(8, 5).happens(205, 202, 300, 101)
	checkStep(t, one, s, []int{outOf2}, want)
	s.Conf = set(4, 6) // 2 isn't left, so that nothing is recorded
	checkStep(t, one, s, []int{outOf2}, old.at(1).happens(206, 204, 300, 101))
}

// at is with just these states active.
func (s session) at(conf ...int) session {
	s.Conf = set(conf...)
	return s
}

// Actions don't change what is recorded, nor is a history left, or entered,
// itself: without Targets nothing is recorded.

func TestNothingLeftNothingRecorded(t *testing.T) {
	c := loud(drawn(past, from(2), from(9), within(2)))
	one := planted(t, c)
	old := standing(one, set(0, 2, 4, 5)).keeps(7, 3).keeps(8, 3)
	checkStep(t, one, old, []int{0}, old.happens(300))
	checkStep(t, one, old, []int{2, 1}, old.happens(302, 301))
	checkFirst(t, one, standing(one, set(0, 1)).happens(100, 101))
}

// A set of children has those that are histories, if they are active: the words
// leave out histories of Parallels that are done alone.

func TestActiveHistories(t *testing.T) {
	one := pastTree(t)
	s := standing(one, set(0, 2, 4, 6, 7, 8))
	want := standing(one, set(0, 1)).keeps(7, 4, 7, 8).keeps(8, 6).happens(206, 204, 202, 300, 101)
	checkStep(t, one, s, []int{outOf2}, want)
}

// P12.2: a list that is too short has empty sets behind it, and is told with
// them; one that is longer is told as long.

func TestHistoriesOfAnyLength(t *testing.T) {
	one := pastTree(t)
	long := make([]uint32, 40)
	for i := range long {
		long[i] = 1 << 3 // for 7 and 8 it stands for the state 3
	}
	for n := range 41 {
		s := standing(one, set(0, 2, 4, 6)).histories(long[:n]...)
		told := make([]uint32, max(n, 21))
		copy(told, long[:n])
		checkStep(t, one, s, nil, standing(one, s.Conf).histories(told...))
		left := append([]uint32{}, told...)
		left[7], left[8] = set(4), set(6)
		checkStep(t, one, s, []int{outOf2}, standing(one, set(0, 1)).histories(left...).happens(206, 204, 202, 300, 101))
		in := standing(one, set(0, 1)).histories(long[:n]...)
		checkStep(t, one, in, []int{toDeep2}, standing(one, set(0, 2, 3)).histories(told...).happens(201, 303, 102, 103))
	}
	bare := standing(one, set(0, 1)).histories()
	bare.Hist = nil
	checkStep(t, one, bare, []int{toDeep9}, standing(one, set(0, 9, 10, 11, 13, 14)).happens(201, 305, 109, 110, 111, 113, 114))
}

// Ended with a history: its set is recorded in the last step, too.

func TestRecordedAtTheEnd(t *testing.T) {
	one := loudly(t, "C(C(A A S) F)", to(1, 5))
	want := standing(one, set(0, 5)).keeps(4, 3).happens(203, 201, 300, 105).as(api.Ended)
	checkStep(t, one, standing(one, set(0, 1, 3)), []int{0}, want)
}
