package enter_test

import (
	"slices"
	"strings"
	"testing"

	"spinet/enter"
	"spinet/tree"
)

// checkSameAs asks with two lists of histories' sets: they make no difference.
func checkSameAs(t *testing.T, one *tree.Tree, hist, other []uint32, from int, l []int) {
	t.Helper()
	checkReal(t, one, hist, l, enter.Real(one, other, l)...)
	checkSet(t, one, hist, from, l, members(enter.Set(one, other, from, l))...)
}

// P8.1, P1: of a tree that is nil: none, nothing.

func TestNoTree(t *testing.T) {
	for _, hist := range [][]uint32{nil, {}, {1<<32 - 1}, slices.Repeat([]uint32{1<<32 - 1}, 40)} {
		for _, l := range [][]int{nil, {}, {0}, {1}, {1, 2, 1}, nowhere(0)} {
			checkReal(t, nil, hist, l)
			for _, from := range append(nowhere(0), 0, 1, 5) {
				checkSet(t, nil, hist, from, l)
			}
		}
	}
}

// eachNowhere hands on trees, how many states each has, and each number of no
// state.
func eachNowhere(t *testing.T, check func(one *tree.Tree, n, s int)) {
	t.Helper()
	for _, text := range []string{smallest, rich, regions, chain(), stairs(), flat()} {
		c := drawn(text)
		one := planted(t, c)
		for _, s := range nowhere(len(c.States)) {
			check(one, len(c.States), s)
		}
	}
}

// Of states that aren't there: none, nothing, whatever sets there are.

func TestNoSuchTarget(t *testing.T) {
	full := slices.Repeat([]uint32{1<<32 - 1}, 300)
	eachNowhere(t, func(one *tree.Tree, n, s int) {
		for _, hist := range [][]uint32{nil, full[:n], full} {
			checkReal(t, one, hist, []int{s})
			checkReal(t, one, hist, []int{s, s, s})
			checkReal(t, one, hist, nowhere(n))
			for from := -1; from <= n; from++ {
				checkSet(t, one, hist, from, []int{s})
				checkSet(t, one, hist, from, []int{s, s, s})
				checkSet(t, one, hist, from, nowhere(n))
			}
			checkSet(t, one, hist, s, []int{s})
		}
	})
}

// At each place among others: these are what they were.

func TestNoSuchTargetAmongOthers(t *testing.T) {
	one := planted(t, drawn(rich))
	hist := sets{20: {18, 15}}.list(23)
	for _, s := range nowhere(23) {
		for at := range 4 {
			l := slices.Insert([]int{20, 21, 15}, at, s)
			checkReal(t, one, hist, l, 15, 18, 21)
			checkFromOutside(t, one, hist, l, 11, 12, 14, 15, 16, 18, 21)
			checkReal(t, one, nil, l, 17, 21, 15)
			checkFromOutside(t, one, nil, l, 11, 12, 14, 15, 16, 17, 21)
		}
	}
}

// As from: what is above goes up to the first state, and has it.

func TestNoSuchFrom(t *testing.T) {
	one := planted(t, drawn(rich))
	hist := sets{20: {18, 15}}.list(23)
	for _, from := range nowhere(23) {
		checkSet(t, one, hist, from, []int{20, 21}, 0, 11, 12, 14, 15, 16, 18, 21)
		checkSet(t, one, hist, from, []int{22}, 0, 22)
		checkSet(t, one, hist, from, []int{0}, 0, 1)
	}
	eachNowhere(t, func(one *tree.Tree, n, from int) {
		for s := range n {
			checkSet(t, one, nil, from, []int{s}, members(enter.Set(one, nil, -1, []int{s}))...)
		}
	})
}

// Bits of states that aren't there, in a history's set, are none of what it
// stands for; they are a set that isn't empty, too, if there are no others.

func TestSetsWithBitsOfNoStates(t *testing.T) {
	one := planted(t, drawn(rich))
	for _, h := range []int{3, 8, 10, 19, 20} {
		for _, kept := range [][]int{{}, {4}, {9, 6}, {18, 15}, {22}} {
			for _, none := range []uint32{set(23), set(24), set(31), set(23, 30), 0xff800000} {
				hist := make([]uint32, 23)
				hist[h] = set(kept...) | none
				want := slices.Sorted(slices.Values(kept))
				checkReal(t, one, hist, []int{h}, want...)
				checkReal(t, one, hist, []int{h, 1, h}, append(want, 1)...)
				for from := -1; from < 23; from++ {
					if got := enter.Set(one, hist, from, []int{h, 1}); got>>23 != 0 || got>>1&1 == 0 {
						t.Errorf("Set(%v, %d) = %v: states that aren't there, or none of 1", hist, from, members(got))
					}
				}
			}
		}
	}
	hist := slices.Repeat([]uint32{set(23, 31)}, 23)
	checkReal(t, one, hist, []int{20, 3, 4, 10}, 4)
	checkFromOutside(t, one, hist, []int{5}, 2, 5, 6)
}

// What a history stands for is told as its set has it, whatever that is; of its
// Set nothing is said then, but that it ends, and has just states that can be
// entered.

func TestSetsOfAnything(t *testing.T) {
	c := drawn(rich)
	one := planted(t, c)
	var histories uint32
	for s, of := range c.States {
		if isHistory(of.Kind) {
			histories |= set(s)
		}
	}
	m := maker{x: 7}
	for range 3000 {
		hist := make([]uint32, m.below(30))
		for s := range hist {
			hist[s] = m.set() & m.set()
		}
		for _, h := range members(histories) {
			if h < len(hist) && hist[h]&(1<<23-1) != 0 {
				checkReal(t, one, hist, []int{h}, members(hist[h]&(1<<23-1))...)
			}
			got := enter.Set(one, hist, m.below(30)-3, []int{h, m.below(30) - 3, h})
			if got&histories != 0 || got>>23 != 0 {
				t.Fatalf("Set(%v, .., %d) = %v: a history, or no state", hist, h, members(got))
			}
		}
	}
}

// P1: histories that stand for themselves, or for each other, come to an end,
// and soon, however many there are.

func TestHistoriesThatStandForEachOther(t *testing.T) {
	many := "C(C(A " + strings.Repeat("S", 11) + strings.Repeat("D2", 10) + "))" // 1 C (2 A, 3 to 23 histories)
	one := planted(t, drawn(many))
	histories := upTo(3, 23)
	for _, of := range []uint32{1<<32 - 1, set(upTo(0, 23)...), set(histories...), set(2, 3), set(3)} {
		hist := slices.Repeat([]uint32{of}, 24)
		want := members(of & (1<<24 - 1))
		for _, l := range [][]int{{3}, {23}, histories, slices.Repeat(histories, 50)} {
			checkReal(t, one, hist, l, want...)
			for from := -1; from < 25; from++ {
				if got := enter.Set(one, hist, from, l); got&^set(0, 1, 2) != 0 {
					t.Errorf("Set(%v, %d, %v) = %v: histories are entered", hist, from, l, members(got))
				}
			}
		}
	}
	ring := make([]uint32, 24)
	for h := 3; h <= 23; h++ {
		ring[h] = set(3 + (h-2)%21)
	}
	for h := 3; h <= 23; h++ {
		checkReal(t, one, ring, []int{h}, 3+(h-2)%21)
		enter.Set(one, ring, 0, []int{h})
	}
}

// A history that stands for another child of its Parent that is a history stands
// for what is below that.

func TestHistoryThatStandsForAHistory(t *testing.T) {
	one := planted(t, drawn("C(A C(S S D A C(A A)) F)")) // 2 C (3 S, 4 S, 5 D, 6 A, 7 C (8, 9)), 10
	hist := sets{3: {4, 5}, 4: {6}, 5: {9}}.list(11)
	checkReal(t, one, hist, []int{3}, 4, 5)
	checkFromOutside(t, one, hist, []int{3}, 2, 6, 7, 9)
	checkFromOutside(t, one, hist, []int{3, 4, 3}, 2, 6, 7, 9)
	hist[5] = 0
	checkFromOutside(t, one, hist, []int{3}, 2, 6)
	hist[4] = set(7)
	checkFromOutside(t, one, hist, []int{3}, 2, 6, 7, 8)
}
