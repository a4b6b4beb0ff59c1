package chart_test

import (
	"math"
	"slices"
	"strings"
	"testing"

	"spinet/api"
)

// checkTrans asks rich, with two variables, with that transition behind one
// that may be, for that fault (0: none).
func checkTrans(t *testing.T, tr api.Trans, want api.Code) {
	t.Helper()
	c := with(drawn(t, rich), api.Trans{Source: 1}, tr)
	c.Vars = 2
	if want == 0 {
		checkMay(t, c)
	} else {
		checkFault(t, c, len(c.States)+1, want)
	}
}

// P5.1: ordinary transitions.

func TestOrdinaryTransitions(t *testing.T) {
	for _, tr := range []api.Trans{
		{Source: 1},
		{Source: 2, Event: 7, Targets: []int{3}},
		{Source: 3, Event: 7, Targets: []int{4}, Internal: true},
		{Source: 4, Guard: "a<b", Targets: []int{9}},
		{Source: 9, Event: api.EventDone + 17, Targets: []int{22}},
		{Source: 22 - 1, Event: 1, Guard: "true", Targets: []int{15, 18}},
		{Source: 2, Targets: []int{13, 15, 18}, Acts: []api.Act{{Kind: api.Log, Expr: "a"}}},
		{Source: 11, Event: api.EventError, Targets: []int{11}},
		{Source: 11, Event: api.EventComm, Targets: []int{6}},
		{Source: 11, Targets: []int{20}},
		{Source: 2, Targets: []int{2}, Internal: true, Guard: "not a==b and 1<2"},
	} {
		checkTrans(t, tr, 0)
	}
}

// The Source is a state but the first one, Atomic, Compound or Parallel.

func TestSources(t *testing.T) {
	for s, state := range drawn(t, rich).States {
		want := api.Code(0)
		if s == 0 || strings.IndexByte("ACP", letters[state.Kind]) < 0 {
			want = api.ErrKind
		}
		checkTrans(t, api.Trans{Source: s}, want)
	}
	for _, s := range []int{math.MinInt, -2, -1, 23, 24, 25, 100, math.MaxInt} {
		checkTrans(t, api.Trans{Source: s}, api.ErrKind)
	}
}

// The Event is from 0 to MaxEvent, or EventError, EventComm, or EventDone and
// a state's number.

func TestEvents(t *testing.T) {
	for _, event := range []int{0, 1, 2, 999, 1000, 1001, 1002, 2000, 2001, 2005, 2006, 2007, 2021, 2022} {
		checkTrans(t, api.Trans{Source: 1, Event: event}, 0)
	}
	for _, event := range []int{math.MinInt, math.MinInt + 2000, -1001, -2, -1, 1003, 1004, 1500, 1999, 2023, 2024, 3000, math.MaxInt - 2000, math.MaxInt} {
		checkTrans(t, api.Trans{Source: 1, Event: event}, api.ErrArg)
	}
	for n := 2; n <= 24; n++ {
		c := drawn(t, "C-1:1"+strings.Repeat(" A0", n-1))
		for s := range n {
			checkMay(t, with(c, api.Trans{Source: 1, Event: 2000 + s}))
		}
		checkFault(t, with(c, api.Trans{Source: 1, Event: 2000 + n}), n, api.ErrArg)
	}
}

// Each Target is a state but the first one, of whatever Kind; there are at most
// three.

func TestTargets(t *testing.T) {
	checkTrans(t, api.Trans{Source: 2, Targets: []int{}}, 0)
	for s := 1; s < 23; s++ {
		for _, source := range []int{1, 2, 9, 21} {
			checkTrans(t, api.Trans{Source: source, Targets: []int{s}}, 0)
		}
	}
	for _, s := range []int{math.MinInt, -2, -1, 0, 23, 24, 100, math.MaxInt} {
		for _, l := range [][]int{{s}, {s, 11}, {11, s}, {s, 11, 18}, {11, s, 18}, {11, 18, s}, {s, s}} {
			checkTrans(t, api.Trans{Source: 2, Targets: l}, api.ErrTarget)
		}
	}
	checkTargets(t, drawn(t, rich), true, []int{13, 15, 18}, []int{13, 15, 21}, []int{13, 18, 21}, []int{15, 18, 21})
	checkTargets(t, drawn(t, rich), false, []int{13, 15, 18, 21}, []int{1, 1, 1, 1}, []int{13, 15, 18, 21, 21})
}

// checkTargets asks whether these may stand together, in any order.
func checkTargets(t *testing.T, c api.Chart, may bool, lists ...[]int) {
	t.Helper()
	for _, l := range lists {
		for turn := range len(l) {
			turned := slices.Concat(l[turn:], l[:turn])
			mirrored := slices.Clone(turned)
			slices.Reverse(mirrored)
			for _, targets := range [][]int{turned, mirrored} {
				one := with(c, api.Trans{Source: 1, Targets: targets})
				if may {
					checkMay(t, one)
				} else {
					checkFault(t, one, len(c.States), api.ErrTarget)
				}
			}
		}
	}
}

// Of two Targets neither is the other one, or in it, and the innermost state
// that both are in is a Parallel.

func TestTwoTargets(t *testing.T) {
	c := drawn(t, rich)
	checkTargets(t, c, true, []int{10, 17}, []int{10, 21}, []int{11, 17}, []int{11, 18}, []int{12, 19}, []int{13, 14}, []int{13, 15}, []int{15, 21}, []int{15, 19})
	checkTargets(t, c, false,
		[]int{11, 11}, []int{9, 9}, []int{22, 22}, // the same
		[]int{9, 10}, []int{9, 15}, []int{10, 11}, []int{10, 15}, []int{12, 13}, []int{12, 15}, []int{14, 15}, []int{1, 4}, // one in the other
		[]int{1, 9}, []int{1, 22}, []int{2, 3}, []int{2, 4}, []int{4, 5}, []int{11, 12}, []int{11, 15}, []int{11, 13}, []int{18, 19}, []int{4, 15}, []int{2, 21}) // in a Compound
	// A Parallel that both are in, around the Compound that they part in, and
	// the other way round:
	checkTargets(t, drawn(t, "C-1:1 P0 C1:3 A2 A2 A1"), false, []int{3, 4})
	checkTargets(t, drawn(t, "C-1:1 P0 C1:3 A2 A2 A1"), true, []int{3, 5}, []int{4, 5})
	checkTargets(t, drawn(t, "C-1:1 C0:2 P1 A2 A2 A1"), true, []int{3, 4})
	checkTargets(t, drawn(t, "C-1:1 C0:2 P1 A2 A2 A1"), false, []int{3, 5}, []int{4, 5})
}

// Of three each two.

func TestThreeTargets(t *testing.T) {
	c := drawn(t, rich)
	checkTargets(t, c, true, []int{10, 17, 21}, []int{11, 18, 21}, []int{13, 15, 18}, []int{13, 14, 17}, []int{12, 17, 21})
	checkTargets(t, c, false, []int{11, 18, 11}, []int{11, 18, 13}, []int{13, 18, 12}, []int{13, 21, 9}, []int{10, 17, 1}, []int{18, 19, 21}, []int{15, 18, 14}, []int{2, 3, 8}, []int{13, 15, 10})
}

// A history counts as its Parent.

func TestHistoriesAsTargets(t *testing.T) {
	c := drawn(t, rich) // 16 counts as 10, 20 as 9, 7 as 1, 6 as 3
	checkTargets(t, c, true, []int{16, 17}, []int{16, 18}, []int{16, 21}, []int{16, 18, 21})
	checkTargets(t, c, false,
		[]int{16, 16}, []int{16, 10}, []int{16, 11}, []int{16, 13}, []int{16, 9}, []int{20, 9}, []int{20, 10}, []int{20, 11}, []int{20, 17}, []int{20, 21}, []int{20, 16},
		[]int{7, 6}, []int{7, 9}, []int{6, 2}, []int{7, 16}, []int{16, 18, 11}, []int{20, 18, 21})
	two := drawn(t, "C-1:1 P0 C1:3 A2 S2:3 D2:3 C1:7 A6 D6:7 D1:2 P1 A10 S10:11")
	checkTargets(t, two, true, []int{4, 8}, []int{5, 8}, []int{4, 6}, []int{4, 7}, []int{3, 8}, []int{12, 4}, []int{12, 8, 4}, []int{12, 3, 7}, []int{12, 5, 7})
	checkTargets(t, two, false, []int{4, 5}, []int{4, 3}, []int{5, 2}, []int{9, 4}, []int{9, 3}, []int{9, 12}, []int{9, 1}, []int{12, 10}, []int{12, 11}, []int{4, 8, 5}, []int{12, 8, 11})
}

// The Guard is empty, or parses, and has the type Truth.

func TestGuards(t *testing.T) {
	for _, guard := range []string{"", "true", "false", "a<b", " a == b ", "not a<1 or b<=2", "1/0==1", "(true)", strings.Repeat(" ", 196) + "true"} {
		checkTrans(t, api.Trans{Source: 1, Guard: guard}, 0)
	}
	for _, guard := range []string{
		" ", "?", "a<", "<", "a b", "true false", "(true", "true)", "True", "a=b", "a<b<2", "\x00", "\xff", // no expression
		"1", "a", "b+1", "-a", "1/0", // numbers
		"c<1", "true or z==1", "i==1", // no such variables
		"a<true", "not a", "1 and true", "true+true==2", "a==false", // no type
		strings.Repeat(" ", 197) + "true", strings.Repeat("not ", 49) + "ab", // no text, or no token
		"true" + strings.Repeat("==(true", 24) + strings.Repeat(")", 23),
	} {
		checkTrans(t, api.Trans{Source: 1, Guard: guard}, api.ErrType)
	}
	signs := func(n int) string { return strings.Repeat("-", n) + "1==1" }
	checkTrans(t, api.Trans{Source: 1, Guard: signs(97)}, 0)
	checkTrans(t, api.Trans{Source: 1, Guard: signs(98)}, api.ErrType)
}

// The variables that a Guard may have are the chart's.

func TestVarsOfGuards(t *testing.T) {
	for vars := range 9 {
		for n := range 26 {
			c := with(drawn(t, "C-1:1 A0"), api.Trans{Source: 1, Guard: string(rune('a'+n)) + "==1"})
			c.Vars = vars
			if n < vars {
				checkMay(t, c)
			} else {
				checkFault(t, c, 2, api.ErrType)
			}
		}
	}
}

// R1: of one transition's faults the first in the chapter's order. All sets of
// them are tried.

func TestFaultsOfOneTransition(t *testing.T) {
	faults := []func(*api.Trans){
		func(tr *api.Trans) { tr.Source = 0 },
		func(tr *api.Trans) { tr.Event = 1003 },
		func(tr *api.Trans) { tr.Targets = []int{11, 12} },
		func(tr *api.Trans) { tr.Guard = "a" },
		func(tr *api.Trans) { tr.Acts = []api.Act{{Kind: api.Raise, N: 1, M: 1}} },
	}
	codes := []api.Code{api.ErrKind, api.ErrArg, api.ErrTarget, api.ErrType, api.ErrArg}
	for set := range 1 << len(faults) {
		tr, want := api.Trans{Source: 1}, api.Code(0)
		for i := len(faults) - 1; i >= 0; i-- {
			if set>>i&1 == 1 {
				faults[i](&tr)
				want = codes[i]
			}
		}
		checkTrans(t, tr, want)
	}
}
