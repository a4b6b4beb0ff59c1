package choose_test

import (
	"math"
	"slices"
	"testing"

	"spinet/tree"
)

// P10.1, P1: of a tree that is nil nothing is ready, gathered or kept, and there
// is no mishap.

func TestNoTree(t *testing.T) {
	for _, i := range append(nowhere(1), 0, 1, 5, 39) {
		for _, event := range append(slices.Clone(events), others...) {
			checkReady(t, nil, nil, i, event, false, false)
			checkReady(t, nil, []int64{1, 2, 3}, i, event, false, false)
		}
		for _, of := range []uint32{0, 1, set(1, 2), full} {
			checkSift(t, nil, of, []int{i})
			checkSift(t, nil, of, []int{0, i, 1, i})
		}
	}
	for _, of := range []uint32{0, 1, set(1, 2), full} {
		for _, event := range append(slices.Clone(events), others...) {
			checkGatherFor(t, nil, of, nil, event, 0)
			checkGatherFor(t, nil, of, []int64{1, 2, 3}, event, 0)
		}
		checkSift(t, nil, of, nil)
	}
}

// A tree that was made of a chart that may not be isn't there.

func TestTreeOfNoChart(t *testing.T) {
	one, err := tree.New(drawn(nest, from(5), to(6, 99)))
	if err == nil {
		t.Fatal("a tree with a target that isn't there")
	}
	checkReady(t, one, nil, 0, 7, false, false)
	checkGather(t, one, full, 0)
	checkSift(t, one, full, []int{0, 1})
}

// No transition is not ready, for whatever event, and no mishap.

func TestNoSuchTransition(t *testing.T) {
	for _, n := range []int{0, 1, 2, 17, 39, 40} {
		c := drawn(nest)
		for i := range n {
			c.Trans = append(c.Trans, of(events[i%len(events)], when(5, []string{"", broken}[i%2])))
		}
		one := planted(t, c)
		for _, i := range nowhere(n) {
			for _, event := range append(slices.Clone(events), others...) {
				checkReady(t, one, nil, i, event, false, false)
				checkReady(t, one, []int64{1, 2, 3}, i, event, false, false)
			}
		}
	}
}

// Such numbers in a list are passed by, wherever they stand.

func TestListsWithNoSuchTransitions(t *testing.T) {
	one := planted(t, drawn(nest, regions()...))
	n := len(regions())
	checkSift(t, one, inner, nowhere(n))
	checkSift(t, one, full, append(nowhere(n), nowhere(n)...))
	for _, i := range nowhere(n) {
		for _, of := range []uint32{0, inner, full} {
			checkSift(t, one, of, []int{i})
			checkSift(t, one, of, []int{i, i})
			checkSift(t, one, of, []int{i, 0, 1}, 0, 1)
			checkSift(t, one, of, []int{0, i, 1}, 0, 1)
			checkSift(t, one, of, []int{0, 1, i}, 0, 1)
			checkSift(t, one, of, []int{12, i, i, 13, i}, 12, 13)
		}
		checkSift(t, one, inner, []int{i, 15, i, 1, i, 8, i}, 15, 1)
		checkSift(t, one, inner, []int{15, i, 1, i, 0}, 1, 0)
	}
}

// Numbers of states, and of the list's own places, are none of transitions.

func TestNumbersOfStatesAreNoTransitions(t *testing.T) {
	one := planted(t, drawn(nest, from(17), when(2, broken)))
	checkReady(t, one, nil, 0, 7, true, false)
	checkReady(t, one, nil, 1, 7, false, true)
	for i := 2; i < 64; i++ {
		checkReady(t, one, nil, i, 7, false, false)
		checkSift(t, one, full, []int{i})
		checkSift(t, one, full, []int{i, 1, i, 0}, 1, 0)
	}
}

// Long lists, in which most are no transitions, or are there many times.

func TestLongLists(t *testing.T) {
	one := planted(t, drawn(nest, regions()...))
	long := slices.Repeat([]int{15, -1, 1, 8, math.MaxInt, 3, 16}, 500)
	checkSift(t, one, inner, long, 15, 1, 3)
	checkSift(t, one, inner, append(long, 0), 1, 3, 0)
	checkSift(t, one, inner, append(nowhere(16), long...), 15, 1, 3)
	checkSift(t, one, inner, slices.Repeat([]int{-1}, 10_000))
	checkSift(t, one, inner, slices.Repeat([]int{12, 13}, 10_000), 12, 13)
}
