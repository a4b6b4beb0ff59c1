package choose_test

import (
	"math"
	"regexp"
	"slices"
	"strconv"
	"strings"
	"testing"

	"spinet/api"
	"spinet/choose"
	"spinet/tree"
)

// letters are the states' Kinds, from Atomic on.
const letters = "ACPFSD"

// nest is a Compound with a Parallel of three regions, the second one being a
// Parallel, too, and with a history in each:
//
//	0 C
//	  1 A
//	  2 C
//	    3 P
//	      4 C
//	        5 A
//	        6 A
//	        7 S
//	      8 P
//	        9 C
//	          10 A
//	          11 F
//	        12 A
//	        13 D, for 11
//	      14 C
//	        15 A
//	        16 C
//	          17 A
//	          18 F
//	        19 D, for 17
//	    20 S
//	    21 A
//	  22 F
const nest = "C(A C(P(C(A A S) P(C(A F) A D11) C(A C(A F) D17)) S A) F)"

// inner is a whole set of nest: its leaves are 5, 10, 12 and 17.
const inner = uint32(1<<0 | 1<<2 | 1<<3 | 1<<4 | 1<<5 | 1<<8 | 1<<9 | 1<<10 | 1<<12 | 1<<14 | 1<<16 | 1<<17)

// smallest has no more than it must.
const smallest = "C(A)"

// chain is 24 states, each in the one ahead of it, Compounds and an Atomic.
func chain() string { return strings.Repeat("C(", 23) + "A" + strings.Repeat(")", 23) }

// mixed is such a chain in which each second state but the last is a Parallel.
func mixed() string { return strings.Repeat("C(P(", 11) + "C(A" + strings.Repeat(")", 23) }

// flat is a first state with 23 children.
func flat() string { return "C(" + strings.Repeat("A", 22) + "F)" }

// wide is a Parallel with 22 children.
func wide() string { return "C(P(" + strings.Repeat("A", 22) + "))" }

// drawn is the chart with three variables that is written so: of each state its
// Kind's letter, its Initial, where that isn't the first one that may be, and its
// children behind it, in brackets.
func drawn(s string, trans ...api.Trans) api.Chart {
	c := api.Chart{Vars: 3, Trans: trans}
	outer := -1
	for _, word := range words.FindAllString(s, -1) {
		switch word {
		case "(":
			outer = len(c.States) - 1
		case ")":
			outer = c.States[outer].Parent
		default:
			one := api.State{Kind: 1 + strings.IndexByte(letters, word[0]), Parent: outer}
			if first, err := strconv.Atoi(word[1:]); err == nil {
				one.Initial = []int{first}
			}
			c.States = append(c.States, one)
		}
	}
	begin(c)
	return c
}

var words = regexp.MustCompile("[" + letters + "][0-9]*|[()]")

// begin gives Initial to each state that needs it, and has none.
func begin(c api.Chart) {
	for s := range c.States {
		one := &c.States[s]
		switch {
		case len(one.Initial) > 0:
		case one.Kind == api.Compound:
			one.Initial = firstKid(c, s)
		case isHistory(one.Kind):
			one.Initial = firstKid(c, one.Parent)
		}
	}
}

func firstKid(c api.Chart, s int) []int {
	for k, one := range c.States {
		if one.Parent == s && !isHistory(one.Kind) {
			return []int{k}
		}
	}
	return nil
}

func isHistory(kind int) bool { return kind == api.Shallow || kind == api.Deep }

// from is a transition for event 7 from a state, when for one with a Guard, and
// to and within for one with Targets.
func from(source int) api.Trans { return api.Trans{Source: source, Event: 7} }

func when(source int, guard string) api.Trans {
	return api.Trans{Source: source, Event: 7, Guard: guard}
}

func to(source int, targets ...int) api.Trans {
	return api.Trans{Source: source, Event: 7, Targets: targets}
}

func within(source int, targets ...int) api.Trans {
	return api.Trans{Source: source, Event: 7, Targets: targets, Internal: true}
}

// of is a transition for another event.
func of(event int, one api.Trans) api.Trans {
	one.Event = event
	return one
}

// broken is a Guard with an error, whatever the variables are.
const broken = "1/0==1"

// planted is a chart's tree.
func planted(t testing.TB, c api.Chart) *tree.Tree {
	t.Helper()
	one, err := tree.New(c)
	if err != nil || one == nil {
		t.Fatalf("New(%v) = %v, %v, want a tree", c, one, err)
	}
	return one
}

// full has the bits of all states, and of some that aren't there.
const full = uint32(math.MaxUint32)

// set has the bits of these.
func set(l ...int) uint32 {
	var set uint32
	for _, s := range l {
		set |= 1 << s
	}
	return set
}

// members are those whose bits a set has.
func members(set uint32) []int {
	var l []int
	for s := range 32 {
		if set>>s&1 == 1 {
			l = append(l, s)
		}
	}
	return l
}

// upTo are the numbers from a to b.
func upTo(a, b int) []int {
	var l []int
	for s := a; s <= b; s++ {
		l = append(l, s)
	}
	return l
}

// turned is a row from its end on.
func turned(l []int) []int {
	l = slices.Clone(l)
	slices.Reverse(l)
	return l
}

// nowhere are numbers of no transition, where there are n.
func nowhere(n int) []int {
	return []int{
		-1, -2, -3, -40, -41, -32, -63, -64, -256, math.MinInt8, math.MinInt32, math.MinInt32 + 1, math.MinInt, math.MinInt + 1,
		n, n + 1, 40, 41, 63, 64, 65, 256, 257, 1 << 16, 1<<16 + 1, 1 << 32, 1<<32 + 1, 1 << 62, math.MaxInt32, math.MaxInt - 1, math.MaxInt,
	}
}

func checkReady(t *testing.T, one *tree.Tree, env []int64, i, event int, ready, mishap bool) {
	t.Helper()
	if r, m := choose.Ready(one, env, i, event); r != ready || m != mishap {
		t.Errorf("Ready(%v, %d, %d) = %v, %v, want %v, %v%s", env, i, event, r, m, ready, mishap, about(one, i))
	}
}

// checkGather asks for event 7, without variables.
func checkGather(t *testing.T, one *tree.Tree, of uint32, mishaps int, want ...int) {
	t.Helper()
	checkGatherFor(t, one, of, nil, 7, mishaps, want...)
}

func checkGatherFor(t *testing.T, one *tree.Tree, of uint32, env []int64, event, mishaps int, want ...int) {
	t.Helper()
	if l, n := choose.Gather(one, of, env, event); n != mishaps || !slices.Equal(l, want) {
		t.Errorf("Gather(%v, %v, %d) = %v, %d, want %v, %d", members(of), env, event, l, n, want, mishaps)
	}
}

func checkSift(t *testing.T, one *tree.Tree, of uint32, l []int, want ...int) {
	t.Helper()
	if got := choose.Sift(one, of, l); !slices.Equal(got, want) {
		t.Errorf("Sift(%v, %v) = %v, want %v", members(of), l, got, want)
	}
}

// about tells of a transition what it hangs on whether it is ready.
func about(one *tree.Tree, i int) string {
	if one == nil {
		return ", of no tree"
	}
	all := one.Chart().Trans
	if i < 0 || i >= len(all) {
		return ", of no transition"
	}
	return ", for event " + strconv.Itoa(all[i].Event) + ", with Guard " + strconv.Quote(all[i].Guard)
}
