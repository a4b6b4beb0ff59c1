package enter_test

import (
	"testing"

	"spinet/api"
)

// call is a row of Targets, what they really are, and what is entered from the
// first state.
type call struct {
	l, real, set []int
}

// checkCalls asks with these histories, from the first state and from -1.
func checkCalls(t *testing.T, c api.Chart, hist []uint32, calls []call) {
	t.Helper()
	one := planted(t, c)
	for _, ask := range calls {
		checkReal(t, one, hist, ask.l, ask.real...)
		checkFromOutside(t, one, hist, ask.l, ask.set...)
	}
}

// P8.1: each state of ordinary charts as the only target, where histories have no
// sets: with what is below it by default, what it is in, and what is beside it
// in Parallels.

func TestOneTarget(t *testing.T) {
	inner := []int{11, 12, 14, 15, 16, 17, 21} // of rich, as far in as can be
	checkCalls(t, drawn(rich), nil, []call{
		{[]int{1}, []int{1}, []int{1}},
		{[]int{2}, []int{2}, []int{2, 4}},
		{[]int{3}, []int{4}, []int{2, 4}},
		{[]int{4}, []int{4}, []int{2, 4}},
		{[]int{5}, []int{5}, []int{2, 5, 6}},
		{[]int{6}, []int{6}, []int{2, 5, 6}},
		{[]int{7}, []int{7}, []int{2, 5, 7}},
		{[]int{8}, []int{6}, []int{2, 5, 6}},
		{[]int{9}, []int{9}, []int{2, 9}},
		{[]int{10}, []int{7}, []int{2, 5, 7}},
		{[]int{11}, []int{11}, []int{11, 12, 13, 21}},
		{[]int{12}, []int{12}, []int{11, 12, 13, 21}},
		{[]int{13}, []int{13}, []int{11, 12, 13, 21}},
		{[]int{14}, []int{14}, inner},
		{[]int{15}, []int{15}, inner},
		{[]int{16}, []int{16}, inner},
		{[]int{17}, []int{17}, inner},
		{[]int{18}, []int{18}, []int{11, 12, 14, 15, 16, 18, 21}},
		{[]int{19}, []int{15}, inner},
		{[]int{20}, []int{17}, inner},
		{[]int{21}, []int{21}, []int{11, 12, 13, 21}},
		{[]int{22}, []int{22}, []int{22}},
	})
	plain := []int{1, 3, 4, 6, 7, 8, 10, 12, 14, 16, 18} // of regions, by default
	checkCalls(t, drawn(regions), nil, []call{
		{[]int{1}, []int{1}, plain},
		{[]int{2}, []int{3}, plain},
		{[]int{3}, []int{3}, plain},
		{[]int{4}, []int{4}, plain},
		{[]int{5}, []int{5}, []int{1, 3, 5, 6, 7, 8, 10, 12, 14, 16, 18}},
		{[]int{6}, []int{6}, plain},
		{[]int{7}, []int{7}, plain},
		{[]int{8}, []int{8}, plain},
		{[]int{9}, []int{9}, []int{1, 3, 4, 6, 7, 8, 9, 12, 14, 16, 18}},
		{[]int{10}, []int{10}, plain},
		{[]int{11}, []int{9}, []int{1, 3, 4, 6, 7, 8, 9, 12, 14, 16, 18}},
		{[]int{12}, []int{12}, plain},
		{[]int{13}, []int{13}, []int{1, 3, 4, 6, 7, 8, 10, 12, 13, 18}},
		{[]int{14}, []int{14}, []int{1, 3, 4, 6, 7, 8, 10, 12, 14, 15, 18}},
		{[]int{15}, []int{15}, []int{1, 3, 4, 6, 7, 8, 10, 12, 14, 15, 18}},
		{[]int{16}, []int{16}, plain},
		{[]int{17}, []int{14}, []int{1, 3, 4, 6, 7, 8, 10, 12, 14, 15, 18}},
		{[]int{18}, []int{18}, plain},
		{[]int{19}, []int{19}, []int{19}},
	})
	checkCalls(t, drawn(smallest), nil, []call{{[]int{1}, []int{1}, []int{1}}})
}

// The first state is a target like any other one: it is added itself, however
// far up what is above it would go.

func TestFirstStateAsTarget(t *testing.T) {
	for _, from := range []int{-1, 0, 1} {
		for s, want := range map[string][]int{
			rich:              {0, 1},
			regions:           {0, 1, 3, 4, 6, 7, 8, 10, 12, 14, 16, 18},
			smallest:          {0, 1},
			"C3(A C(A A) F)":  {0, 2, 3},
			"C4(A C(A A) F)":  {0, 2, 4},
			"C(P(A A) A)":     {0, 1, 2, 3},
			"C5(P(A C(A A)))": {0, 1, 2, 3, 5},
		} {
			one := planted(t, drawn(s))
			checkReal(t, one, nil, []int{0}, 0)
			checkSet(t, one, nil, from, []int{0}, want...)
		}
	}
}

// Several targets, in each order: no child of a Parallel that has one of them
// gets what it has by default.

func TestSeveralTargets(t *testing.T) {
	checkEachOrder(t, rich, []int{13, 21}, 11, 12, 13, 21)
	checkEachOrder(t, rich, []int{18, 21}, 11, 12, 14, 15, 16, 18, 21)
	checkEachOrder(t, rich, []int{15, 17}, 11, 12, 14, 15, 16, 17, 21)
	checkEachOrder(t, rich, []int{15, 18}, 11, 12, 14, 15, 16, 18, 21)
	checkEachOrder(t, rich, []int{21, 15, 18}, 11, 12, 14, 15, 16, 18, 21)
	checkEachOrder(t, rich, []int{16, 21}, 11, 12, 14, 15, 16, 17, 21)
	checkEachOrder(t, regions, []int{5, 9}, 1, 3, 5, 6, 7, 8, 9, 12, 14, 16, 18)
	checkEachOrder(t, regions, []int{5, 13}, 1, 3, 5, 6, 7, 8, 10, 12, 13, 18)
	checkEachOrder(t, regions, []int{9, 15}, 1, 3, 4, 6, 7, 8, 9, 12, 14, 15, 18)
	checkEachOrder(t, regions, []int{18, 7}, 1, 3, 4, 6, 7, 8, 10, 12, 14, 16, 18)
	checkEachOrder(t, regions, []int{5, 7, 14}, 1, 3, 5, 6, 7, 8, 10, 12, 14, 15, 18)
	checkEachOrder(t, regions, []int{5, 9, 13, 18}, 1, 3, 5, 6, 7, 8, 9, 12, 13, 18)
}

// Targets that part in a Compound are no less targets.

func TestTargetsThatPartInACompound(t *testing.T) {
	checkEachOrder(t, rich, []int{1, 22}, 1, 22)
	checkEachOrder(t, rich, []int{4, 9, 22}, 2, 4, 9, 22)
	checkEachOrder(t, rich, []int{7, 6}, 2, 5, 6, 7)
	checkEachOrder(t, rich, []int{1, 7, 13}, 1, 2, 5, 7, 11, 12, 13, 21)
	checkEachOrder(t, rich, []int{17, 18}, 11, 12, 14, 15, 16, 17, 18, 21)
	checkEachOrder(t, regions, []int{4, 5}, 1, 3, 4, 5, 6, 7, 8, 10, 12, 14, 16, 18)
	checkEachOrder(t, regions, []int{19, 13}, 1, 3, 4, 6, 7, 8, 10, 12, 13, 18, 19)
}

func checkEachOrder(t *testing.T, s string, l []int, want ...int) {
	t.Helper()
	one := planted(t, drawn(s))
	eachOrder(l, 0, func(l []int) {
		checkReal(t, one, nil, l, l...)
		checkFromOutside(t, one, nil, l, want...)
	})
}

// eachOrder hands on each order of a row, the first ones of which stay.
func eachOrder(l []int, stay int, check func([]int)) {
	if stay == len(l) {
		check(l)
		return
	}
	for i := stay; i < len(l); i++ {
		l[stay], l[i] = l[i], l[stay]
		eachOrder(l, stay+1, check)
		l[stay], l[i] = l[i], l[stay]
	}
}

// What is below one target is added ahead of what is below the next one: where
// one is in the other, it hangs on their order what the children of a Parallel
// get.

func TestOrderOfTargets(t *testing.T) {
	checkCalls(t, drawn(rich), nil, []call{
		{[]int{18, 14}, []int{18, 14}, []int{11, 12, 14, 15, 16, 18, 21}},
		{[]int{14, 18}, []int{14, 18}, []int{11, 12, 14, 15, 16, 17, 18, 21}},
		{[]int{18, 11}, []int{18, 11}, []int{11, 12, 14, 15, 16, 18, 21}},
		{[]int{11, 18}, []int{11, 18}, []int{11, 12, 13, 14, 15, 16, 18, 21}},
		{[]int{18, 11, 14}, []int{18, 11, 14}, []int{11, 12, 14, 15, 16, 18, 21}},
		{[]int{11, 14, 18}, []int{11, 14, 18}, []int{11, 12, 13, 14, 15, 16, 17, 18, 21}},
	})
	checkCalls(t, drawn(regions), nil, []call{
		{[]int{5, 1}, []int{5, 1}, []int{1, 3, 5, 6, 7, 8, 10, 12, 14, 16, 18}},
		{[]int{1, 5}, []int{1, 5}, []int{1, 3, 4, 5, 6, 7, 8, 10, 12, 14, 16, 18}},
		{[]int{9, 6}, []int{9, 6}, []int{1, 3, 4, 6, 7, 8, 9, 12, 14, 16, 18}},
		{[]int{6, 9}, []int{6, 9}, []int{1, 3, 4, 6, 7, 8, 9, 10, 12, 14, 16, 18}},
		{[]int{9, 1, 13}, []int{9, 1, 13}, []int{1, 3, 4, 6, 7, 8, 9, 12, 13, 14, 16, 18}},
		{[]int{9, 13, 1}, []int{9, 13, 1}, []int{1, 3, 4, 6, 7, 8, 9, 12, 13, 18}},
		{[]int{1, 9, 13}, []int{1, 9, 13}, []int{1, 3, 4, 6, 7, 8, 9, 10, 12, 13, 14, 16, 18}},
	})
}

// A Compound's Initial is below it whatever it has already; only a Parallel's
// child is left as it is.

func TestCompoundThatHasSomething(t *testing.T) {
	checkEachOrder(t, rich, []int{9, 2}, 2, 4, 9)
	checkEachOrder(t, rich, []int{7, 5}, 2, 5, 6, 7)
	checkEachOrder(t, rich, []int{7, 2}, 2, 4, 5, 7)
	checkEachOrder(t, regions, []int{15, 12}, 1, 3, 4, 6, 7, 8, 10, 12, 14, 15, 16, 18)
	checkEachOrder(t, regions, []int{4, 3}, 1, 3, 4, 6, 7, 8, 10, 12, 14, 16, 18)
	checkEachOrder(t, "C(C(C(A A)))", []int{4, 1}, 1, 2, 3, 4)
}
