package leave_test

import (
	"testing"

	"spinet/api"
	"spinet/tree"
)

// P9.1, P1: of a tree that is nil: no reach, nothing is left, none clash.

func TestNoTree(t *testing.T) {
	for _, i := range append(nowhere(1), 0, 1, 5, 39) {
		checkReach(t, nil, i, -1)
		for _, of := range []uint32{0, 1, set(1, 2), full} {
			checkSet(t, nil, of, i)
			for _, k := range append(nowhere(1), 0, 1, 5, 39) {
				checkClash(t, nil, of, i, k, false)
			}
		}
	}
}

// A tree that was made of a chart that may not be isn't there.

func TestTreeOfNoChart(t *testing.T) {
	one, err := tree.New(drawn(rich, to(6, 99)))
	if err == nil {
		t.Fatal("a tree with a target that isn't there")
	}
	checkReach(t, one, 0, -1)
	checkSet(t, one, full, 0)
	checkClash(t, one, full, 0, 0, false)
}

// Of no transition: no reach, nothing is left, none clash with it, nor it with
// itself, nor with another number of none.

func TestNoSuchTransition(t *testing.T) {
	for _, n := range []int{0, 1, 2, 17, 39, 40} {
		c := drawn(rich)
		for range n {
			c.Trans = append(c.Trans, to(1, 22))
		}
		one := planted(t, c)
		for _, i := range nowhere(n) {
			checkReach(t, one, i, -1)
			for _, of := range []uint32{0, set(0, 1), 1<<23 - 1, full} {
				checkSet(t, one, of, i)
				checkClash(t, one, of, i, i, false)
				for k := range n {
					checkClash(t, one, of, i, k, false)
				}
				for _, k := range nowhere(n) {
					checkClash(t, one, of, i, k, false)
				}
			}
		}
	}
}

// Numbers of states are none of transitions, be they taken for one of these.

func TestNumbersOfStatesAreNoTransitions(t *testing.T) {
	one := planted(t, drawn(rich, to(1, 22), to(6, 7)))
	checkReach(t, one, 0, 0)
	checkReach(t, one, 1, 5)
	for i := 2; i < 64; i++ {
		checkReach(t, one, i, -1)
		checkSet(t, one, full, i)
		checkClash(t, one, full, 0, i, false)
	}
}

// Charts without transitions, and the smallest ones.

func TestNoTransitions(t *testing.T) {
	for _, text := range []string{smallest, rich, nest, chain(), mixed(), flat(), wide()} {
		one := planted(t, drawn(text))
		for i := range 50 {
			checkReach(t, one, i, -1)
			checkSet(t, one, full, i)
			checkClash(t, one, full, i, i, false)
		}
		one = planted(t, api.Chart{States: drawn(text).States, Trans: []api.Trans{}})
		checkReach(t, one, 0, -1)
	}
}
