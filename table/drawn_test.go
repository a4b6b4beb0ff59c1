package table_test

import (
	"math"
	"regexp"
	"slices"
	"strconv"
	"strings"
	"testing"

	"spinet/api"
	"spinet/table"
)

// letters are the states' Kinds, from Atomic on.
const letters = "ACPFSD"

// rich has states of each Kind, Compounds and Parallels in each other, and
// histories of both kinds among the children of both, ahead of others and
// behind them:
//
//	0 C
//	  1 A
//	  2 C
//	    3 S
//	    4 A
//	    5 C
//	      6 A
//	      7 F
//	      8 D
//	    9 F
//	    10 D
//	  11 P
//	    12 C
//	      13 A
//	      14 P
//	        15 A
//	        16 C
//	          17 A
//	          18 F
//	        19 S
//	    20 D
//	    21 A
//	  22 F
const rich = "C(A C(S A C(A F D) F D) P(C(A P(A C(A F) S)) D A) F)"

// smallest has no more than it must.
const smallest = "C(A)"

// chain is 24 states, each in the one ahead of it, Compounds and an Atomic.
func chain() string { return strings.Repeat("C(", 23) + "A" + strings.Repeat(")", 23) }

// mixed is such a chain in which each second state but the last is a Parallel.
func mixed() string { return strings.Repeat("C(P(", 11) + "C(A" + strings.Repeat(")", 23) }

// stairs is a chain of Parallels, in each an Atomic and the next one: of 24
// states, those of odd numbers are Parallels but for the last, which is Atomic,
// as those of even numbers are but for the first.
func stairs() string { return "C(" + strings.Repeat("P(A ", 11) + "A" + strings.Repeat(")", 12) }

// flat is a first state with 23 children.
func flat() string { return "C(" + strings.Repeat("A", 22) + "F)" }

// wide is a Parallel with 22 children.
func wide() string { return "C(P(" + strings.Repeat("A", 22) + "))" }

// drawn is the chart with three variables that is written so: of each state its
// Kind's letter, its Initial, where that isn't the first one that may be, and its
// children behind it, in brackets.
func drawn(s string, trans ...api.Trans) api.Chart {
	c := api.Chart{Vars: 3, Trans: trans}
	outer := -1
	for _, word := range words.FindAllString(s, -1) {
		switch word {
		case "(":
			outer = len(c.States) - 1
		case ")":
			outer = c.States[outer].Parent
		default:
			one := api.State{Kind: 1 + strings.IndexByte(letters, word[0]), Parent: outer}
			if first, err := strconv.Atoi(word[1:]); err == nil {
				one.Initial = []int{first}
			}
			c.States = append(c.States, one)
		}
	}
	begin(c)
	return c
}

var words = regexp.MustCompile("[" + letters + "][0-9]*|[()]")

// begin gives Initial to each state that needs it, and has none.
func begin(c api.Chart) {
	for s := range c.States {
		one := &c.States[s]
		switch {
		case len(one.Initial) > 0:
		case one.Kind == api.Compound:
			one.Initial = firstKid(c, s)
		case isHistory(one.Kind):
			one.Initial = firstKid(c, one.Parent)
		}
	}
}

func firstKid(c api.Chart, s int) []int {
	for k, one := range c.States {
		if one.Parent == s && !isHistory(one.Kind) {
			return []int{k}
		}
	}
	return nil
}

func isHistory(kind int) bool { return kind == api.Shallow || kind == api.Deep }

// from is a transition for event 7, when one with a Guard.
func from(source int) api.Trans { return api.Trans{Source: source, Event: 7} }

func when(source int, guard string) api.Trans {
	return api.Trans{Source: source, Event: 7, Guard: guard}
}

// laden is a chart with something at each place.
func laden() api.Chart {
	c := drawn(rich)
	for s := range c.States {
		if !isHistory(c.States[s].Kind) {
			c.States[s].Entry = []api.Act{{Kind: api.Raise, N: 1 + s}, {Kind: api.Assign, N: s % 3, Expr: "a+1"}}
			c.States[s].Exit = []api.Act{{Kind: api.Cancel, N: 100 + s}}
		}
	}
	c.Trans = []api.Trans{
		{Source: 1, Event: 7, Guard: "a<3", Targets: []int{13, 21}, Acts: []api.Act{{Kind: api.Log, Expr: "b*2"}}},
		{Source: 2, Event: api.EventDone + 5, Targets: []int{4}, Internal: true},
		{Source: 11, Event: 0, Guard: "c==2", Acts: []api.Act{{Kind: api.Send, N: 1000, M: 999, Expr: "c"}, {Kind: api.Raise, N: 5}}},
		{Source: 17, Event: api.EventError, Targets: []int{10}},
		{Source: 2, Event: 8, Guard: "a/b==1", Targets: []int{22}},
	}
	return c
}

// made is a chart's table.
func made(t testing.TB, c api.Chart) *table.Table {
	t.Helper()
	one, err := table.New(c)
	if err != nil || one == nil {
		t.Fatalf("New(%v) = %v, %v, want a table", c, one, err)
	}
	return one
}

// set has the bits of these.
func set(l ...int) uint32 {
	var set uint32
	for _, s := range l {
		set |= 1 << s
	}
	return set
}

// members are those whose bits a set has.
func members(set uint32) []int {
	var l []int
	for s := range 32 {
		if set>>s&1 == 1 {
			l = append(l, s)
		}
	}
	return l
}

// upTo are the numbers from a to b.
func upTo(a, b int) []int {
	var l []int
	for s := a; s <= b; s++ {
		l = append(l, s)
	}
	return l
}

// nowhere are numbers of nothing, where there are n, at most 24 or 40.
func nowhere(n int) []int {
	l := []int{
		-1, -2, -3, -24, -25, -32, -40, -41, -63, -64, -256, math.MinInt8, math.MinInt32, math.MinInt32 + 1, math.MinInt, math.MinInt + 1,
		n, n + 1, n + 7, 24, 25, 31, 32, 33, 40, 41, 63, 64, 65, 256, 257, 1 << 16, 1<<16 + 1, 1 << 32, 1<<32 + 1, 1 << 62, math.MaxInt32, math.MaxInt - 1, math.MaxInt,
	}
	return slices.DeleteFunc(l, func(i int) bool { return 0 <= i && i < n })
}

func checkDefault(t *testing.T, one *table.Table, s int, want ...int) {
	t.Helper()
	if got := one.Default(s); got != set(want...) {
		t.Errorf("Default(%d) = %v, want %v", s, members(got), want)
	}
}

func checkFrom(t *testing.T, one *table.Table, s int, want ...int) {
	t.Helper()
	if got := one.From(s); !slices.Equal(got, want) {
		t.Errorf("From(%d) = %v, want %v", s, got, want)
	}
}

func checkGuard(t *testing.T, one *table.Table, i int, env []int64, holds, mishap bool) {
	t.Helper()
	if h, m := one.Guard(i, env); h != holds || m != mishap {
		t.Errorf("Guard(%d, %v) = %v, %v, want %v, %v%s", i, env, h, m, holds, mishap, about(one, i))
	}
}

// about tells a transition's Guard.
func about(one *table.Table, i int) string {
	all := one.Chart().Trans
	if i < 0 || i >= len(all) {
		return ", of no transition"
	}
	return ", of " + strconv.Quote(all[i].Guard)
}

// plain is a chart with nil for each list of no elements: both may be told.
func plain(c api.Chart) api.Chart {
	c.States, c.Trans = slices.Concat(c.States), slices.Concat(c.Trans)
	for s, one := range c.States {
		c.States[s].Initial, c.States[s].Entry, c.States[s].Exit = slices.Concat(one.Initial), slices.Concat(one.Entry), slices.Concat(one.Exit)
	}
	for i, one := range c.Trans {
		c.Trans[i].Targets, c.Trans[i].Acts = slices.Concat(one.Targets), slices.Concat(one.Acts)
	}
	return c
}
