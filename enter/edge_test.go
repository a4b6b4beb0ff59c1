package enter_test

import (
	"slices"
	"strings"
	"testing"

	"spinet/enter"
	"spinet/tree"
)

// P8.1: no targets are none, and nothing is entered, from wherever.

func TestNoTargets(t *testing.T) {
	for _, s := range []string{smallest, rich, regions, chain(), mixed(), stairs(), flat(), wide()} {
		one := planted(t, drawn(s))
		for _, l := range [][]int{nil, {}, make([]int, 0, 5)} {
			for _, hist := range [][]uint32{nil, make([]uint32, 24), slices.Repeat([]uint32{1<<32 - 1}, 24)} {
				checkReal(t, one, hist, l)
				for from := -1; from < 25; from++ {
					checkSet(t, one, hist, from, l)
				}
			}
		}
	}
}

// An Initial that is deeper than a child: what is between is added, and of each
// Parallel there the other children.

func TestInitialDeeperThanAChild(t *testing.T) {
	const between = "C9(C(A P(C(A A) C(A A) S4)) A)" // 0; 1 C (2 A, 3 P (4 C (5, 6), 7 C (8, 9), 10 S)), 11
	checkCalls(t, drawn(between), nil, []call{
		{[]int{0}, []int{0}, []int{0, 1, 3, 4, 5, 7, 9}},
		{[]int{1}, []int{1}, []int{1, 2}},
		{[]int{7}, []int{7}, []int{1, 3, 4, 5, 7, 8}},
		{[]int{10}, []int{4}, []int{1, 3, 4, 5, 7, 8}},
	})
	const nested = "C(C8(P(A C(A P(C(A A) A A))) A) A)" // 1 C, 8 first: 2 P (3 A, 4 C (5 A, 6 P (7 C (8, 9), 10, 11))), 12; 13
	checkCalls(t, drawn(nested), nil, []call{
		{[]int{1}, []int{1}, []int{1, 2, 3, 4, 6, 7, 8, 10, 11}},
		{[]int{0}, []int{0}, []int{0, 1, 2, 3, 4, 6, 7, 8, 10, 11}},
		{[]int{2}, []int{2}, []int{1, 2, 3, 4, 5}},
		{[]int{9, 1}, []int{9, 1}, []int{1, 2, 3, 4, 6, 7, 8, 9, 10, 11}},
		{[]int{12}, []int{12}, []int{1, 12}},
	})
	// The Initial is a Parallel, or a Compound with a deep Initial of its own.
	checkCalls(t, drawn("C3(C(A P(A A)))"), nil, []call{
		{[]int{0}, []int{0}, []int{0, 1, 3, 4, 5}},
		{[]int{1}, []int{1}, []int{1, 2}},
	})
	checkCalls(t, drawn("C2(C(C5(C(A A)) A) A)"), nil, []call{
		{[]int{0}, []int{0}, []int{0, 1, 2, 3, 5}},
		{[]int{1}, []int{1}, []int{1, 2, 3, 5}},
		{[]int{3}, []int{3}, []int{1, 2, 3, 4}},
	})
	checkCalls(t, drawn("C23"+chain()[1:]), nil, []call{
		{[]int{0}, []int{0}, upTo(0, 23)},
	})
}

// upTo are the numbers from a to b.
func upTo(a, b int) []int {
	var l []int
	for s := a; s <= b; s++ {
		l = append(l, s)
	}
	return l
}

// A Parallel's child that has something already gets no more, be it ahead of the
// others, among them, or behind them.

func TestChildThatHasSomethingAlready(t *testing.T) {
	const three = "C(P(C(A A) C(A A) C(A A)))" // 1 P; 2 C (3, 4), 5 C (6, 7), 8 C (9, 10)
	checkCalls(t, drawn(three), nil, []call{
		{[]int{1}, []int{1}, []int{1, 2, 3, 5, 6, 8, 9}},
		{[]int{4, 1}, []int{4, 1}, []int{1, 2, 4, 5, 6, 8, 9}},
		{[]int{7, 1}, []int{7, 1}, []int{1, 2, 3, 5, 7, 8, 9}},
		{[]int{10, 1}, []int{10, 1}, []int{1, 2, 3, 5, 6, 8, 10}},
		{[]int{4, 10, 1}, []int{4, 10, 1}, []int{1, 2, 4, 5, 6, 8, 10}},
		{[]int{4}, []int{4}, []int{1, 2, 4, 5, 6, 8, 9}},
		{[]int{7}, []int{7}, []int{1, 2, 3, 5, 7, 8, 9}},
		{[]int{10}, []int{10}, []int{1, 2, 3, 5, 6, 8, 10}},
		{[]int{10, 4}, []int{10, 4}, []int{1, 2, 4, 5, 6, 8, 10}},
		{[]int{10, 7}, []int{10, 7}, []int{1, 2, 3, 5, 7, 8, 10}},
		{[]int{7, 4}, []int{7, 4}, []int{1, 2, 4, 5, 7, 8, 9}},
		{[]int{10, 4, 7}, []int{10, 4, 7}, []int{1, 2, 4, 5, 7, 8, 10}},
	})
	one := planted(t, drawn(three))
	// The child itself isn't in the set: what it has is.
	checkSet(t, one, nil, 2, []int{4, 1}, 0, 1, 4, 5, 6, 8, 9)
	checkSet(t, one, nil, 5, []int{7, 1}, 0, 1, 2, 3, 7, 8, 9)
	checkSet(t, one, nil, 8, []int{10, 1}, 0, 1, 2, 3, 5, 6, 10)
	// It has something far below: 1 P; 2 C (3, 4 C (5, 6 C (7, 8))), 9.
	checkCalls(t, drawn("C(P(C(A C(A C(A A))) A))"), nil, []call{
		{[]int{8, 1}, []int{8, 1}, []int{1, 2, 4, 6, 8, 9}},
		{[]int{1, 8}, []int{1, 8}, []int{1, 2, 3, 4, 6, 8, 9}},
		{[]int{8}, []int{8}, []int{1, 2, 4, 6, 8, 9}},
		{[]int{9}, []int{9}, []int{1, 2, 3, 9}},
	})
}

// Parallels in Parallels, right above a target and further above.

func TestParallelInParallel(t *testing.T) {
	const twice = "C(A P(P(C(A A) A) A P(A C(A A))))" // 2 P; 3 P (4 C (5, 6), 7), 8, 9 P (10, 11 C (12, 13))
	plain := []int{2, 3, 4, 5, 7, 8, 9, 10, 11, 12}
	checkCalls(t, drawn(twice), nil, []call{
		{[]int{2}, []int{2}, plain},
		{[]int{3}, []int{3}, plain},
		{[]int{4}, []int{4}, plain},
		{[]int{7}, []int{7}, plain},
		{[]int{8}, []int{8}, plain},
		{[]int{9}, []int{9}, plain},
		{[]int{6}, []int{6}, []int{2, 3, 4, 6, 7, 8, 9, 10, 11, 12}},
		{[]int{13}, []int{13}, []int{2, 3, 4, 5, 7, 8, 9, 10, 11, 13}},
		{[]int{13, 6}, []int{13, 6}, []int{2, 3, 4, 6, 7, 8, 9, 10, 11, 13}},
		{[]int{13, 6, 2}, []int{13, 6, 2}, []int{2, 3, 4, 6, 7, 8, 9, 10, 11, 13}},
		{[]int{13, 2, 6}, []int{13, 2, 6}, []int{2, 3, 4, 5, 6, 7, 8, 9, 10, 11, 13}},
	})
	one := planted(t, drawn(twice))
	checkSet(t, one, nil, 2, []int{6}, 3, 4, 6, 7)
	checkSet(t, one, nil, 3, []int{6}, 4, 6)
	checkSet(t, one, nil, 2, []int{13, 7}, 3, 4, 5, 7, 9, 10, 11, 13)
	checkCalls(t, drawn("C(P(P(A A) P(A)))"), nil, []call{
		{[]int{1}, []int{1}, upTo(1, 6)},
		{[]int{3}, []int{3}, upTo(1, 6)},
		{[]int{5}, []int{5}, upTo(1, 6)},
		{[]int{6, 2}, []int{6, 2}, upTo(1, 6)},
	})
}

// A Parallel's histories are not entered with it, nor do they stand for anything.

func TestHistoriesOfParallels(t *testing.T) {
	const many = "C(P(S D4 A C(A A) S D) F)" // 1 P; 2 S for 4, 3 D for 4, 4, 5 C (6, 7), 8 S, 9 D; 10
	c := drawn(many)
	plain := []int{1, 4, 5, 6}
	checkCalls(t, c, nil, []call{
		{[]int{1}, []int{1}, plain},
		{[]int{2}, []int{4}, plain},
		{[]int{3}, []int{4}, plain},
		{[]int{8}, []int{4}, plain},
		{[]int{9}, []int{4}, plain},
		{[]int{9, 7}, []int{4, 7}, []int{1, 4, 5, 7}},
	})
	hist := sets{2: {5}, 3: {7}, 8: {4, 5}, 9: {6, 4}}.list(11)
	checkCalls(t, c, hist, []call{
		{[]int{1}, []int{1}, plain},
		{[]int{4}, []int{4}, plain},
		{[]int{2}, []int{5}, plain},
		{[]int{3}, []int{7}, []int{1, 4, 5, 7}},
		{[]int{8}, []int{4, 5}, plain},
		{[]int{9}, []int{4, 6}, plain},
		{[]int{8, 3}, []int{4, 5, 7}, []int{1, 4, 5, 6, 7}},
		{[]int{3, 8}, []int{7, 4, 5}, []int{1, 4, 5, 6, 7}},
	})
}

// A chain of 24 states: all further in is below each, by default; all further out
// is above it, up to from.

func TestChains(t *testing.T) {
	for _, text := range []string{chain(), mixed()} {
		one := planted(t, drawn(text))
		for s := range 24 {
			checkReal(t, one, nil, []int{s}, s)
			for from := -1; from <= 24; from++ {
				want := upTo(from+1, 23)
				if from >= s {
					want = upTo(0, 23)
				}
				checkSet(t, one, nil, from, []int{s}, want...)
				checkSet(t, one, nil, from, []int{s, 23}, want...)
			}
		}
	}
}

func TestStairs(t *testing.T) {
	one := planted(t, drawn(stairs()))
	for s := 1; s < 24; s++ {
		checkFromOutside(t, one, nil, []int{s}, upTo(1, 23)...)
		checkFromOutside(t, one, nil, []int{s, 23, 2}, upTo(1, 23)...)
		for from := 1; from < s-1; from += 2 {
			checkSet(t, one, nil, from, []int{s}, upTo(from+2, 23)...)
		}
	}
}

// A history that goes up a long way.

func TestHistoryAboveAChain(t *testing.T) {
	deep := "C(" + strings.Repeat("C(", 21) + "A" + strings.Repeat(")", 20) + " D22))" // 1 has 2 .. 22, each in the one ahead of it, and 23 D
	one := planted(t, drawn(deep))
	checkReal(t, one, nil, []int{23}, 22)
	checkFromOutside(t, one, nil, []int{23}, upTo(1, 22)...)
	hist := make([]uint32, 24)
	hist[23] = set(22)
	checkFromOutside(t, one, hist, []int{23}, upTo(1, 22)...)
	for from := 1; from <= 21; from++ {
		checkSet(t, one, hist, from, []int{23}, upTo(2, 22)...)
		checkSet(t, one, hist, from, []int{22}, upTo(from+1, 22)...)
	}
}

// A first state, and a Parallel, with as many children as there can be.

func TestMostChildren(t *testing.T) {
	one := planted(t, drawn(flat()))
	for s := 1; s < 24; s++ {
		checkFromOutside(t, one, nil, []int{s}, s)
		checkFromOutside(t, one, nil, []int{s, 7, s}, s, 7)
		checkFromOutside(t, one, nil, upTo(s, 23), upTo(s, 23)...)
	}
	one = planted(t, drawn(wide()))
	for s := 1; s < 24; s++ {
		checkFromOutside(t, one, nil, []int{s}, upTo(1, 23)...)
		if s > 1 {
			checkSet(t, one, nil, 1, []int{s, 9}, s, 9)
		}
	}
}

// A row may be long.

func TestLongRow(t *testing.T) {
	one := planted(t, drawn(rich))
	hist := sets{20: {15, 18}}.list(23)
	l := slices.Repeat([]int{20, 21, 15, 22, -1, 99}, 100_000)
	checkLong(t, one, hist, l, []int{15, 18, 21, 22}, []int{11, 12, 14, 15, 16, 18, 21, 22})
	l[len(l)-1] = 17
	checkLong(t, one, hist, l, []int{15, 18, 21, 22, 17}, []int{11, 12, 14, 15, 16, 17, 18, 21, 22})
}

func checkLong(t *testing.T, one *tree.Tree, hist []uint32, l, real, entered []int) {
	t.Helper()
	if got := enter.Real(one, hist, l); !slices.Equal(got, real) {
		t.Errorf("Real of %d = %v, want %v", len(l), got, real)
	}
	if got := enter.Set(one, hist, 0, l); got != set(entered...) {
		t.Errorf("Set of %d = %v, want %v", len(l), members(got), entered)
	}
}
