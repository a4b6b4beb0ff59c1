package leave_test

import (
	"math"
	"regexp"
	"strconv"
	"strings"
	"testing"

	"spinet/api"
	"spinet/leave"
	"spinet/tree"
)

// letters are the states' Kinds, from Atomic on.
const letters = "ACPFSD"

// rich has states of each Kind, Compounds and Parallels in each other, and
// histories of both kinds among the children of both, ahead of others and
// behind them:
//
//	0 C
//	  1 A
//	  2 C
//	    3 S
//	    4 A
//	    5 C
//	      6 A
//	      7 F
//	      8 D
//	    9 F
//	    10 D, for 7
//	  11 P
//	    12 C
//	      13 A
//	      14 P
//	        15 A
//	        16 C
//	          17 A
//	          18 F
//	        19 S
//	    20 D, for 17
//	    21 A
//	  22 F
const rich = "C(A C(S A C(A F D) F D7) P(C(A P(A C(A F) S)) D17 A) F)"

// nest is a Compound with a Parallel of three regions, the second one being a
// Parallel, too, and with a history in each:
//
//	0 C
//	  1 A
//	  2 C
//	    3 P
//	      4 C
//	        5 A
//	        6 A
//	        7 S
//	      8 P
//	        9 C
//	          10 A
//	          11 F
//	        12 A
//	        13 D, for 11
//	      14 C
//	        15 A
//	        16 C
//	          17 A
//	          18 F
//	        19 D, for 17
//	    20 S
//	    21 A
//	  22 F
const nest = "C(A C(P(C(A A S) P(C(A F) A D11) C(A C(A F) D17)) S A) F)"

// smallest has no more than it must.
const smallest = "C(A)"

// chain is 24 states, each in the one ahead of it, Compounds and an Atomic.
func chain() string { return strings.Repeat("C(", 23) + "A" + strings.Repeat(")", 23) }

// mixed is such a chain in which each second state but the last is a Parallel.
func mixed() string { return strings.Repeat("C(P(", 11) + "C(A" + strings.Repeat(")", 23) }

// flat is a first state with 23 children.
func flat() string { return "C(" + strings.Repeat("A", 22) + "F)" }

// wide is a Parallel with 22 children.
func wide() string { return "C(P(" + strings.Repeat("A", 22) + "))" }

// drawn is the chart that is written so: of each state its Kind's letter, its
// Initial, where that isn't the first one that may be, and its children behind
// it, in brackets.
func drawn(s string, trans ...api.Trans) api.Chart {
	c := api.Chart{Trans: trans}
	outer := -1
	for _, word := range words.FindAllString(s, -1) {
		switch word {
		case "(":
			outer = len(c.States) - 1
		case ")":
			outer = c.States[outer].Parent
		default:
			one := api.State{Kind: 1 + strings.IndexByte(letters, word[0]), Parent: outer}
			if first, err := strconv.Atoi(word[1:]); err == nil {
				one.Initial = []int{first}
			}
			c.States = append(c.States, one)
		}
	}
	begin(c)
	return c
}

var words = regexp.MustCompile("[" + letters + "][0-9]*|[()]")

// begin gives Initial to each state that needs it, and has none.
func begin(c api.Chart) {
	for s := range c.States {
		one := &c.States[s]
		switch {
		case len(one.Initial) > 0:
		case one.Kind == api.Compound:
			one.Initial = firstKid(c, s)
		case isHistory(one.Kind):
			one.Initial = firstKid(c, one.Parent)
		}
	}
}

func firstKid(c api.Chart, s int) []int {
	for k, one := range c.States {
		if one.Parent == s && !isHistory(one.Kind) {
			return []int{k}
		}
	}
	return nil
}

func isHistory(kind int) bool { return kind == api.Shallow || kind == api.Deep }

// to is a transition, and within one that is Internal.
func to(source int, targets ...int) api.Trans {
	return api.Trans{Source: source, Event: 1, Targets: targets}
}

func within(source int, targets ...int) api.Trans {
	one := to(source, targets...)
	one.Internal = true
	return one
}

// planted is a chart's tree.
func planted(t testing.TB, c api.Chart) *tree.Tree {
	t.Helper()
	one, err := tree.New(c)
	if err != nil || one == nil {
		t.Fatalf("New(%v) = %v, %v, want a tree", c, one, err)
	}
	return one
}

// full has the bits of all states, and of some that aren't there.
const full = uint32(math.MaxUint32)

// set has the bits of these.
func set(l ...int) uint32 {
	var set uint32
	for _, s := range l {
		set |= 1 << s
	}
	return set
}

// members are those whose bits a set has.
func members(set uint32) []int {
	var l []int
	for s := range 32 {
		if set>>s&1 == 1 {
			l = append(l, s)
		}
	}
	return l
}

// upTo are the numbers from a to b.
func upTo(a, b int) []int {
	var l []int
	for s := a; s <= b; s++ {
		l = append(l, s)
	}
	return l
}

// nowhere are numbers of no transition, where there are n.
func nowhere(n int) []int {
	return []int{
		-1, -2, -3, -40, -41, -32, -63, -64, -256, math.MinInt8, math.MinInt32, math.MinInt32 + 1, math.MinInt, math.MinInt + 1,
		n, n + 1, 40, 41, 63, 64, 65, 256, 257, 1 << 16, 1<<16 + 1, 1 << 32, 1<<32 + 1, 1 << 62, math.MaxInt32, math.MaxInt - 1, math.MaxInt,
	}
}

func checkReach(t *testing.T, one *tree.Tree, i, want int) {
	t.Helper()
	if got := leave.Reach(one, i); got != want {
		t.Errorf("Reach(%d) = %d, want %d%s", i, got, want, about(one, i))
	}
}

func checkSet(t *testing.T, one *tree.Tree, of uint32, i int, want ...int) {
	t.Helper()
	if got := leave.Set(one, of, i); got != set(want...) {
		t.Errorf("Set(%v, %d) = %v, want %v%s", members(of), i, members(got), want, about(one, i))
	}
}

// checkClash asks in both orders.
func checkClash(t *testing.T, one *tree.Tree, of uint32, i, k int, want bool) {
	t.Helper()
	for _, p := range [][2]int{{i, k}, {k, i}} {
		if got := leave.Clash(one, of, p[0], p[1]); got != want {
			t.Errorf("Clash(%v, %d, %d) = %v%s%s", members(of), p[0], p[1], got, about(one, i), about(one, k))
		}
	}
}

// about tells from where to where a transition goes.
func about(one *tree.Tree, i int) string {
	if one == nil {
		return ", of no tree"
	}
	all := one.Chart().Trans
	if i < 0 || i >= len(all) {
		return ", of no transition"
	}
	text := ", from " + strconv.Itoa(all[i].Source) + " to"
	for _, s := range all[i].Targets {
		text += " " + strconv.Itoa(s)
	}
	if all[i].Internal {
		text += ", internal"
	}
	return text
}
