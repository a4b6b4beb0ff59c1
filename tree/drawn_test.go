package tree_test

import (
	"math"
	"strings"
	"testing"

	"spinet/api"
	"spinet/tree"
)

// letters are the states' Kinds, from Atomic on.
const letters = "ACPFSD"

// rich has states of each Kind, Compounds and Parallels in each other, and
// histories of both kinds among the children of both, ahead of others and
// behind them:
//
//	0 C
//	  1 A
//	  2 C
//	    3 S
//	    4 A
//	    5 C
//	      6 A
//	      7 F
//	      8 D
//	    9 F
//	    10 D
//	  11 P
//	    12 C
//	      13 A
//	      14 P
//	        15 A
//	        16 C
//	          17 A
//	          18 F
//	        19 S
//	    20 D
//	    21 A
//	  22 F
const rich = "C(A C(S A C(A F D) F D) P(C(A P(A C(A F) S)) D A) F)"

// smallest has no more than it must.
const smallest = "C(A)"

// chain is 24 states, each in the one ahead of it, Compounds and an Atomic.
func chain() string { return strings.Repeat("C(", 23) + "A" + strings.Repeat(")", 23) }

// mixed is such a chain in which each second state but the last is a Parallel.
func mixed() string { return strings.Repeat("C(P(", 11) + "C(A" + strings.Repeat(")", 23) }

// flat is a first state with 23 children.
func flat() string { return "C(" + strings.Repeat("A", 22) + "F)" }

// drawn is the chart that is written so: of each state its Kind's letter, and
// its children behind it, in brackets. Its Initial is the first one that may be.
func drawn(s string) api.Chart {
	var c api.Chart
	outer := -1
	for _, r := range s {
		switch r {
		case ' ':
		case '(':
			outer = len(c.States) - 1
		case ')':
			outer = c.States[outer].Parent
		default:
			c.States = append(c.States, api.State{Kind: 1 + strings.IndexRune(letters, r), Parent: outer})
		}
	}
	begin(c)
	return c
}

// begin gives Initial to each state that needs it.
func begin(c api.Chart) {
	for s := range c.States {
		one := &c.States[s]
		switch {
		case one.Kind == api.Compound:
			one.Initial = firstKid(c, s)
		case isHistory(one.Kind):
			one.Initial = firstKid(c, one.Parent)
		}
	}
}

func firstKid(c api.Chart, s int) []int {
	for k, one := range c.States {
		if one.Parent == s && !isHistory(one.Kind) {
			return []int{k}
		}
	}
	return nil
}

func isHistory(kind int) bool { return kind == api.Shallow || kind == api.Deep }

// planted is a chart's tree.
func planted(t testing.TB, c api.Chart) *tree.Tree {
	t.Helper()
	one, err := tree.New(c)
	if err != nil || one == nil {
		t.Fatalf("New(%v) = %v, %v, want a tree", c, one, err)
	}
	return one
}

// set has the bits of these.
func set(l ...int) uint32 {
	var set uint32
	for _, s := range l {
		set |= 1 << s
	}
	return set
}

// nowhere are numbers of no state, where there are n.
func nowhere(n int) []int {
	return []int{
		-1, -2, -3, -24, -25, -32, -63, -64, -256, math.MinInt8, math.MinInt32, math.MinInt32 + 1, math.MinInt, math.MinInt + 1,
		n, n + 1, 24, 25, 31, 32, 33, 63, 64, 65, 256, 257, 1 << 16, 1<<16 + 1, 1 << 32, 1<<32 + 1, 1 << 62, math.MaxInt32, math.MaxInt - 1, math.MaxInt,
	}
}
