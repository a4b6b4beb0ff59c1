package enter_test

import (
	"math"
	"regexp"
	"slices"
	"strconv"
	"strings"
	"testing"

	"spinet/api"
	"spinet/enter"
	"spinet/tree"
)

// letters are the states' Kinds, from Atomic on.
const letters = "ACPFSD"

// rich has states of each Kind, Compounds and Parallels in each other, and
// histories of both kinds among the children of both, ahead of others and
// behind them:
//
//	0 C
//	  1 A
//	  2 C
//	    3 S
//	    4 A
//	    5 C
//	      6 A
//	      7 F
//	      8 D
//	    9 F
//	    10 D, for 7
//	  11 P
//	    12 C
//	      13 A
//	      14 P
//	        15 A
//	        16 C
//	          17 A
//	          18 F
//	        19 S
//	    20 D, for 17
//	    21 A
//	  22 F
const rich = "C(A C(S A C(A F D) F D7) P(C(A P(A C(A F) S)) D17 A) F)"

// regions is a Parallel with five children, a history in front, the other four
// being a Compound, a Parallel, a Compound whose Initial is deeper than a child,
// and an Atomic:
//
//	0 C
//	  1 P
//	    2 S, for 3
//	    3 C
//	      4 A
//	      5 A
//	    6 P
//	      7 A
//	      8 C, 10 first
//	        9 A
//	        10 A
//	      11 D, for 9
//	    12 C, 16 first
//	      13 A
//	      14 C
//	        15 A
//	        16 F
//	      17 S, for 14
//	    18 A
//	  19 F
const regions = "C(P(S C(A A) P(A C10(A A) D9) C16(A C(A F) S14) A) F)"

// smallest has no more than it must.
const smallest = "C(A)"

// chain is 24 states, each in the one ahead of it, Compounds and an Atomic.
func chain() string { return strings.Repeat("C(", 23) + "A" + strings.Repeat(")", 23) }

// mixed is such a chain in which each second state but the last is a Parallel.
func mixed() string { return strings.Repeat("C(P(", 11) + "C(A" + strings.Repeat(")", 23) }

// stairs is a chain of Parallels, in each an Atomic and the next one: of 24
// states, those of odd numbers are Parallels but for the last, which is Atomic,
// as those of even numbers are but for the first.
func stairs() string { return "C(" + strings.Repeat("P(A ", 11) + "A" + strings.Repeat(")", 12) }

// flat is a first state with 23 children.
func flat() string { return "C(" + strings.Repeat("A", 22) + "F)" }

// wide is a Parallel with 22 children.
func wide() string { return "C(P(" + strings.Repeat("A", 22) + "))" }

// drawn is the chart that is written so: of each state its Kind's letter, its
// Initial, where that isn't the first one that may be, and its children behind
// it, in brackets.
func drawn(s string) api.Chart {
	var c api.Chart
	outer := -1
	for _, word := range words.FindAllString(s, -1) {
		switch word {
		case "(":
			outer = len(c.States) - 1
		case ")":
			outer = c.States[outer].Parent
		default:
			one := api.State{Kind: 1 + strings.IndexByte(letters, word[0]), Parent: outer}
			if first, err := strconv.Atoi(word[1:]); err == nil {
				one.Initial = []int{first}
			}
			c.States = append(c.States, one)
		}
	}
	begin(c)
	return c
}

var words = regexp.MustCompile("[" + letters + "][0-9]*|[()]")

// begin gives Initial to each state that needs it, and has none.
func begin(c api.Chart) {
	for s := range c.States {
		one := &c.States[s]
		switch {
		case len(one.Initial) > 0:
		case one.Kind == api.Compound:
			one.Initial = firstKid(c, s)
		case isHistory(one.Kind):
			one.Initial = firstKid(c, one.Parent)
		}
	}
}

func firstKid(c api.Chart, s int) []int {
	for k, one := range c.States {
		if one.Parent == s && !isHistory(one.Kind) {
			return []int{k}
		}
	}
	return nil
}

func isHistory(kind int) bool { return kind == api.Shallow || kind == api.Deep }

// planted is a chart's tree.
func planted(t testing.TB, c api.Chart) *tree.Tree {
	t.Helper()
	one, err := tree.New(c)
	if err != nil || one == nil {
		t.Fatalf("New(%v) = %v, %v, want a tree", c, one, err)
	}
	return one
}

// set has the bits of these.
func set(l ...int) uint32 {
	var set uint32
	for _, s := range l {
		set |= 1 << s
	}
	return set
}

// members are those whose bits a set has.
func members(set uint32) []int {
	var l []int
	for s := range 32 {
		if set>>s&1 == 1 {
			l = append(l, s)
		}
	}
	return l
}

// nowhere are numbers of no state, where there are n.
func nowhere(n int) []int {
	return []int{
		-1, -2, -3, -24, -25, -32, -63, -64, -256, math.MinInt8, math.MinInt32, math.MinInt32 + 1, math.MinInt, math.MinInt + 1,
		n, n + 1, 24, 25, 31, 32, 33, 63, 64, 65, 256, 257, 1 << 16, 1<<16 + 1, 1 << 32, 1<<32 + 1, 1 << 62, math.MaxInt32, math.MaxInt - 1, math.MaxInt,
	}
}

func checkReal(t *testing.T, one *tree.Tree, hist []uint32, l []int, want ...int) {
	t.Helper()
	if got := enter.Real(one, hist, l); !slices.Equal(got, want) {
		t.Errorf("Real(%v, %v) = %v, want %v", hist, l, got, want)
	}
}

func checkSet(t *testing.T, one *tree.Tree, hist []uint32, from int, l []int, want ...int) {
	t.Helper()
	if got := enter.Set(one, hist, from, l); got != set(want...) {
		t.Errorf("Set(%v, %d, %v) = %v, want %v", hist, from, l, members(got), want)
	}
}

// checkFromOutside asks from -1 and from the first state: that is all the
// difference there is.
func checkFromOutside(t *testing.T, one *tree.Tree, hist []uint32, l []int, want ...int) {
	t.Helper()
	checkSet(t, one, hist, 0, l, want...)
	checkSet(t, one, hist, -1, l, append(slices.Clone(want), 0)...)
}
