package chart_test

import (
	"math"
	"slices"
	"strings"
	"testing"

	"spinet/api"
)

// checkActs asks for the fault of these actions, or none, at each place that
// has actions: Entry and Exit of states of each Kind that may have some, and
// Acts.
func checkActs(t *testing.T, vars int, may bool, l ...api.Act) {
	t.Helper()
	const all = "C-1:1 C0:2 A1 F1 P0 A4"
	for place := range 13 {
		c := with(drawn(t, all), api.Trans{Source: 1}, api.Trans{Source: 2})
		c.Vars = vars
		at := place / 2
		switch {
		case place == 12:
			at = 7
			c.Trans[1].Acts = l
		case place%2 == 0:
			c.States[at].Entry = l
		default:
			c.States[at].Exit = l
		}
		if may {
			checkMay(t, c)
		} else {
			checkFault(t, c, at, api.ErrArg)
		}
	}
}

// P5.1: ordinary actions.

func TestOrdinaryActions(t *testing.T) {
	checkActs(t, 2, true,
		api.Act{Kind: api.Assign, N: 1, Expr: "a+1"},
		api.Act{Kind: api.Raise, N: 7},
		api.Act{Kind: api.Send, N: 8, M: 9, Expr: "b"},
		api.Act{Kind: api.Cancel, N: 8},
		api.Act{Kind: api.Log, Expr: "a*b"})
}

// At each place there are at most MaxActs; and Entry and Exit don't count
// together.

func TestHowManyActions(t *testing.T) {
	for _, n := range []int{0, 1, 4, 5, 6, 7, 100} {
		checkActs(t, 0, n <= 5, repeated(api.Act{Kind: api.Raise, N: 1}, n)...)
	}
	five := repeated(api.Act{Kind: api.Log, Expr: "1"}, 5)
	c := with(drawn(t, "C-1:1 A0"), api.Trans{Source: 1, Acts: five})
	for s := range c.States {
		c.States[s].Entry, c.States[s].Exit = five, five
	}
	checkMay(t, c)
}

// Each of them may be: the first one, one between, and the last.

func TestEachAction(t *testing.T) {
	sound, bad := api.Act{Kind: api.Raise, N: 1}, api.Act{Kind: api.Raise}
	for n := 1; n <= 5; n++ {
		for at := range n {
			l := repeated(sound, n)
			l[at] = bad
			checkActs(t, 0, false, l...)
		}
	}
	c := drawn(t, "C-1:1 A0")
	c.States[1].Entry, c.States[1].Exit = []api.Act{sound}, []api.Act{bad}
	checkFault(t, c, 1, api.ErrArg)
	c.States[1].Entry, c.States[1].Exit = []api.Act{bad}, []api.Act{sound}
	checkFault(t, c, 1, api.ErrArg)
}

// edges are numbers at the ends of what N, M and Kind may be.
func edges() []int {
	return []int{math.MinInt, -1000, -2, -1, 0, 1, 2, 3, 6, 7, 8, 9, 999, 1000, 1001, 1002, 2000, math.MaxInt}
}

// checkNumbers asks which N and M an action of that Kind may have: from the
// first to the second, and from the third to the fourth.
func checkNumbers(t *testing.T, vars, kind int, text string, may [4]int) {
	t.Helper()
	for _, n := range edges() {
		for _, m := range edges() {
			ok := may[0] <= n && n <= may[1] && may[2] <= m && m <= may[3]
			checkActs(t, vars, ok, api.Act{Kind: kind, N: n, M: m, Expr: text})
		}
	}
}

func TestNumbersOfActions(t *testing.T) {
	for _, vars := range []int{0, 1, 2, 7, 8} {
		checkNumbers(t, vars, api.Assign, "1", [4]int{0, vars - 1, 0, 0})
	}
	checkNumbers(t, 2, api.Raise, "", [4]int{1, 1000, 0, 0})
	checkNumbers(t, 2, api.Send, "1", [4]int{1, 1000, 0, 1000})
	checkNumbers(t, 2, api.Cancel, "", [4]int{1, 1000, 0, 0})
	checkNumbers(t, 2, api.Log, "1", [4]int{0, 0, 0, 0})
}

// The Kind is one of the five.

func TestKindsOfActions(t *testing.T) {
	for _, kind := range append(edges(), -5, 4, 5) {
		for _, text := range []string{"", "1"} {
			for n := range 2 {
				none := kind < api.Assign || kind > api.Log
				written := kind == api.Raise || kind == api.Cancel
				may := !none && written == (text == "") && (kind == api.Assign || (kind == api.Log) == (n == 0))
				checkActs(t, 2, may, api.Act{Kind: kind, N: n, Expr: text})
			}
		}
	}
}

// Expr of Assign, Send and Log parses, and has the type Int; of the others it
// is empty.

func TestTextsOfActions(t *testing.T) {
	numbers := []string{"0", "1", " a ", "b", "a+b*2", "-a", "1/0", "a%0", "(a)", strings.Repeat(" ", 199) + "a", strings.Repeat("-", 99) + "1"}
	others := []string{
		"", " ", "?", "a+", "+", "a b", "(a", "a)", "A", "1 2", "\xff", "9223372036854775808", // no expression
		"true", "a<b", "not true", "a==b", "(false)", // truths
		"c", "a+c", "z", "i*2", // no such variables
		"a+true", "not a", "-true", // no type
		strings.Repeat(" ", 200) + "a", strings.Repeat("-", 100) + "1", // too large
	}
	for _, s := range numbers {
		checkTextOfAll(t, s, []int{api.Assign, api.Send, api.Log})
	}
	for _, s := range others {
		var of []int
		if s == "" {
			of = []int{api.Raise, api.Cancel}
		}
		checkTextOfAll(t, s, of)
	}
}

// checkTextOfAll asks which Kinds may have that Expr, with two variables.
func checkTextOfAll(t *testing.T, s string, may []int) {
	t.Helper()
	for kind := api.Assign; kind <= api.Log; kind++ {
		n := 1
		if kind == api.Log {
			n = 0
		}
		checkActs(t, 2, slices.Contains(may, kind), api.Act{Kind: kind, N: n, Expr: s})
	}
}

// The variables that an Expr may have are the chart's.

func TestVarsOfActions(t *testing.T) {
	for vars := range 9 {
		for n := range 10 {
			checkActs(t, vars, n < vars, api.Act{Kind: api.Log, Expr: string(rune('a' + n))})
			checkActs(t, vars, n < vars, api.Act{Kind: api.Send, N: 1, Expr: string(rune('a'+n)) + "+1"})
		}
		checkActs(t, vars, vars > 7, api.Act{Kind: api.Assign, N: 0, Expr: "h"})
	}
}
