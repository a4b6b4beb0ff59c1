package choose_test

import (
	"math"
	"slices"
	"testing"

	"spinet/api"
)

// P10.1: no transitions: nothing is ready, gathered or kept.

func TestNoTransitions(t *testing.T) {
	for _, text := range []string{smallest, nest, chain(), mixed(), flat(), wide()} {
		for _, trans := range [][]api.Trans{nil, {}} {
			one := planted(t, drawn(text, trans...))
			for _, event := range append(slices.Clone(events), others...) {
				checkReady(t, one, []int64{1, 2, 3}, 0, event, false, false)
				checkGatherFor(t, one, full, []int64{1, 2, 3}, event, 0)
				checkGatherFor(t, one, 0, nil, event, 0)
			}
			checkSift(t, one, full, []int{0, 1, 0, 39})
		}
	}
}

// Each event gathers its own transitions: event 0 those that take none; events
// below 0 none.

func TestEvents(t *testing.T) {
	c := drawn(nest)
	for _, event := range events {
		c.Trans = append(c.Trans, of(event, from(3)), of(event, when(10, "a<b")))
	}
	one := planted(t, c)
	for k, event := range events {
		checkGatherFor(t, one, set(5, 12), []int64{1, 2}, event, 0, 2*k)
		checkGatherFor(t, one, inner, []int64{1, 2}, event, 0, 2*k, 2*k+1)
		checkGatherFor(t, one, inner, []int64{2, 1}, event, 0, 2*k)
		checkGatherFor(t, one, inner, []int64{2}, event, 1, 2*k)
	}
	for _, event := range others {
		checkGatherFor(t, one, inner, []int64{1, 2}, event, 0)
		checkGatherFor(t, one, full, nil, event, 0)
	}
}

// No variables, and more than there may be.

func TestVariables(t *testing.T) {
	one := planted(t, drawn(nest, when(5, "c<1"), when(4, "b==b"), when(3, "a/b==0"), when(2, "true")))
	checkGatherFor(t, one, set(5), nil, 7, 3, 3)
	checkGatherFor(t, one, set(5), []int64{}, 7, 3, 3)
	checkGatherFor(t, one, set(5), []int64{9}, 7, 3, 3)
	checkGatherFor(t, one, set(5), []int64{9, 0}, 7, 1, 1)
	checkGatherFor(t, one, set(5), []int64{9, 0, 0}, 7, 0, 0)
	checkGatherFor(t, one, set(5), []int64{9, 0, 1}, 7, 0, 1)
	for _, n := range []int{4, 8, 9, 26, 27, 1000} {
		env := make([]int64, n)
		env[2], env[3] = 1, math.MinInt64
		checkGatherFor(t, one, set(5), env, 7, 0, 1)
		checkGatherFor(t, one, set(10), env, 7, 1, 3)
		env[1] = 1
		checkGatherFor(t, one, set(10), env, 7, 0, 2)
		env[2] = 0
		checkGatherFor(t, one, set(5), env, 7, 0, 0)
	}
	none := drawn(smallest, when(1, "false"), when(1, "1<2"))
	none.Vars = 0
	checkGatherFor(t, planted(t, none), set(1), nil, 7, 0, 1)
	checkGatherFor(t, planted(t, none), set(1), make([]int64, 9), 7, 0, 1)
}

// A chain of 24 states: from the leaf out to the state that has one that is
// ready, with a mishap of each on the way. The later one of two that are taken
// has its Source in the earlier one's, or hasn't.

func TestChains(t *testing.T) {
	for _, text := range []string{chain(), mixed()} {
		for s := 1; s < 24; s++ {
			c := drawn(text, from(s))
			for k := 1; k < 24; k++ {
				c.Trans = append(c.Trans, when(k, broken))
			}
			one := planted(t, c)
			checkGather(t, one, set(23), 23-s, 0)
			checkGather(t, one, full, 23-s, 0)
			checkGather(t, one, 1<<23-1, 0)
		}
		c := drawn(text)
		for s := 1; s < 24; s++ {
			c.Trans = append(c.Trans, to(s, s))
		}
		one := planted(t, c)
		checkSift(t, one, full, upTo(0, 22), 22)
		checkSift(t, one, full, turned(upTo(0, 22)), 22)
		checkSift(t, one, set(23), []int{5, 3, 9, 7, 1}, 9)
		checkSift(t, one, set(0), []int{5, 3, 9, 7, 1}, 5, 3, 9, 7, 1)
		checkGather(t, one, full, 0, 22)
	}
}

// A first state with 23 children: each leaf has its own, and all leave the first
// state's child, so that the first of them is kept.

func TestMostChildren(t *testing.T) {
	c := drawn(flat())
	for s := 22; s > 0; s-- {
		c.Trans = append(c.Trans, to(s, s+1))
	}
	one := planted(t, c)
	for s := 1; s < 23; s++ {
		checkGather(t, one, set(s), 0, 22-s)
	}
	checkGather(t, one, set(23), 0)
	checkGather(t, one, full, 0, turned(upTo(0, 21))...)
	checkSift(t, one, set(0, 9), upTo(0, 21), 0)
	checkSift(t, one, full, turned(upTo(0, 21)), 21)
	checkSift(t, one, set(0), upTo(0, 21), upTo(0, 21)...)
}

// A Parallel with 22 children, of which each has its own, too.

func TestMostRegions(t *testing.T) {
	c := drawn(wide())
	for s := 2; s < 24; s++ {
		c.Trans = append(c.Trans, from(s))
	}
	c.Trans = append(c.Trans, of(8, from(1)), of(8, when(1, broken)), of(9, when(1, broken)))
	one := planted(t, c)
	checkGather(t, one, full, 0, upTo(0, 21)...)
	checkSift(t, one, full, upTo(0, 21), upTo(0, 21)...)
	checkGatherFor(t, one, full, nil, 8, 0, 22)
	checkGatherFor(t, one, full, nil, 9, 22)
}

// 40 transitions of one state: the last one alone is ready, or none is.

func TestMostTransitions(t *testing.T) {
	c := drawn(nest)
	for range 39 {
		c.Trans = append(c.Trans, when(3, broken))
	}
	c.Trans = append(c.Trans, when(3, "a==0"))
	one := planted(t, c)
	checkGatherFor(t, one, set(5), []int64{0}, 7, 39, 39)
	checkGatherFor(t, one, set(5), []int64{1}, 7, 39)
	checkGatherFor(t, one, set(5), nil, 7, 40)
	checkGatherFor(t, one, full, []int64{0}, 7, 8*39, 39)
	checkGatherFor(t, one, full, nil, 7, 8*40)
}

// 40 of many states, in one list.

func TestSiftOfMost(t *testing.T) {
	c := drawn(nest)
	for i := range 40 {
		c.Trans = append(c.Trans, within([]int{2, 3, 14, 16, 17}[i/8], 18))
	}
	one, all := planted(t, c), upTo(0, 39)
	checkSift(t, one, full, all, 32)
	checkSift(t, one, inner, turned(all), 39)
	checkSift(t, one, inner, upTo(0, 31), 24)
	checkSift(t, one, inner, turned(upTo(0, 23)), 23)
	checkSift(t, one, 0, all, all...)
	for i := range c.Trans {
		c.Trans[i].Targets = nil
	}
	one = planted(t, c)
	checkSift(t, one, full, all, all...)
	checkSift(t, one, full, turned(all), turned(all)...)
}

// The smallest chart.

func TestSmallest(t *testing.T) {
	one := planted(t, drawn(smallest, to(1, 1), from(1), of(8, when(1, broken))))
	checkGather(t, one, set(0, 1), 0, 0)
	checkGather(t, one, set(0), 0)
	checkGatherFor(t, one, full, nil, 8, 1)
	checkSift(t, one, set(0, 1), []int{0, 1, 2}, 0, 1, 2)
	checkSift(t, one, set(0, 1), []int{2, 0, 0, 1}, 2, 0, 1)
	for s := 2; s < 32; s++ {
		checkGather(t, one, set(s), 0)
	}
}
