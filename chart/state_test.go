package chart_test

import (
	"math"
	"slices"
	"testing"

	"spinet/api"
)

// checkDrawn asks charts that are written so for the fault of that state.
func checkDrawn(t *testing.T, at int, want api.Code, charts ...string) {
	t.Helper()
	for _, s := range charts {
		checkFault(t, drawn(t, s), at, want)
	}
}

// checkMayDrawn asks for none.
func checkMayDrawn(t *testing.T, charts ...string) {
	t.Helper()
	for _, s := range charts {
		checkMay(t, drawn(t, s))
	}
}

// The Kind is one of the six, and the first state's is Compound.

func TestKindsOfStates(t *testing.T) {
	for _, kind := range []int{math.MinInt, -2, -1, 0, 7, 8, 15, math.MaxInt} {
		for s := range 3 {
			c := drawn(t, "C-1:1 A0 A0")
			c.States[s].Kind = kind
			checkFault(t, c, s, api.ErrKind)
		}
	}
	checkMayDrawn(t, "C-1:1 A0")
	checkDrawn(t, 0, api.ErrKind, "A-1 A0", "P-1 A0", "F-1 A0", "S-1:1 A0", "D-1:1 A0", "A-1", "P-1", "F-1")
}

// The Parent of the first state is -1.

func TestParentOfFirst(t *testing.T) {
	checkDrawn(t, 0, api.ErrArg, "C0:1 A0", "C1:1 A0", "C2:1 A0", "C-2:1 A0", "C24:1 A0")
}

// The Parent of another one is the one right ahead, or one that that is in.

func TestParentsOfOthers(t *testing.T) {
	checkMayDrawn(t,
		"C-1:1 C0:2 C1:3 A2 A2", "C-1:1 C0:2 C1:3 A2 A1", "C-1:1 C0:2 C1:3 A2 A0",
		"C-1:1 C0:2 C1:3 C2:4 A3", "C-1:1 P0 C1:3 A2 C1:5 A4 A1 A0")
	// What stands ahead, but the one right ahead neither is it, nor is in it:
	checkDrawn(t, 4, api.ErrArg, "C-1:1 A0 C0:3 A2 A1", "C-1:1 C0:2 A1 A0 A1", "C-1:1 P0 A1 A0 A1", "C-1:1 P0 A1 A1 A2", "C-1:1 C0:2 A1 A0 A2")
	// None, itself, those behind it, and behind the last one:
	checkDrawn(t, 2, api.ErrArg, "C-1:1 A0 A-1 A0", "C-1:1 A0 A-2 A0", "C-1:1 A0 A2 A0", "C-1:1 A0 A3 A0", "C-1:1 A0 A4 A0", "C-1:1 A0 A24 A0")
	checkDrawn(t, 1, api.ErrArg, "C-1:2 A-1 A0", "C-1:2 A1 A0", "C-1:3 C2:2 C1:1 A0", "C-1:2 A2 A0")
	checkDrawn(t, 3, api.ErrArg, "C-1:1 A0 A0 A-1", "C-1:1 A0 A0 A3", "C-1:1 A0 A0 A4")
	// A history's, and a Final's, likewise:
	checkDrawn(t, 4, api.ErrArg, "C-1:1 C0:2 A1 A0 S1:2", "C-1:1 C0:2 A1 A0 D1:2", "C-1:1 C0:2 A1 A0 F1")
}

// The Parent's Kind is Compound or Parallel.

func TestKindsOfParents(t *testing.T) {
	checkDrawn(t, 2, api.ErrKind, "C-1:1 A0 A1", "C-1:1 F0 A1", "C-1:1 A0 F1", "C-1:1 F0 F1", "C-1:1 A0 C1:3 A2", "C-1:1 A0 P1 A2", "C-1:1 A0 S1:0", "C-1:1 F0 D1:0")
	checkDrawn(t, 4, api.ErrKind, "C-1:1 C0:2 A1 S1:2 A3", "C-1:1 C0:2 A1 D1:2 A3", "C-1:1 C0:2 A1 S1:2 F3", "C-1:1 C0:2 A1 D1:2 S3:2")
	checkMayDrawn(t, "C-1:1 C0:2 A1", "C-1:1 P0 A1", "C-1:1 P0 P1 A2", "C-1:1 P0 C1:3 A2", "C-1:1 C0:2 P1 A2")
	// Of a Final Compound:
	checkMayDrawn(t, "C-1:1 F0", "C-1:1 C0:2 F1", "C-1:1 P0 C1:3 F2")
	checkDrawn(t, 2, api.ErrKind, "C-1:1 P0 F1", "C-1:1 P0 F1 A1")
	checkDrawn(t, 3, api.ErrKind, "C-1:1 P0 A1 F1")
	// Of a history it isn't the first state:
	checkMayDrawn(t, "C-1:1 C0:2 A1 S1:2", "C-1:1 C0:2 A1 D1:2", "C-1:1 P0 A1 S1:2", "C-1:1 P0 A1 D1:2")
	checkDrawn(t, 1, api.ErrKind, "C-1:2 S0:2 A0", "C-1:2 D0:2 A0")
	checkDrawn(t, 2, api.ErrKind, "C-1:1 A0 S0:1", "C-1:1 A0 D0:1")
	checkDrawn(t, 3, api.ErrKind, "C-1:1 C0:2 A1 S0:1", "C-1:1 C0:2 A1 D0:2")
}

// A Compound, or a Parallel, has a child that is no history.

func TestStatesNeedKids(t *testing.T) {
	checkDrawn(t, 0, api.ErrNone, "C-1:0", "C-1", "C-1:1 A1", "C-1:1 A-1", "C-1:1 S0:1", "C-1:2 S0:1 A1", "C-1:2 S0:1 D0:1")
	checkDrawn(t, 1, api.ErrNone, "C-1:1 C0:1", "C-1:1 P0", "C-1:1 C0:2 A0", "C-1:1 P0 A0", "C-1:1 C0:2 S1:2", "C-1:1 P0 D1:2", "C-1:1 C0:3 S1:3 A2", "C-1:1 P0 S1:3 A2", "C-1:1 P0 S1:3 D1:2 A0")
	// A child counts as it is, whatever fault it has itself:
	checkDrawn(t, 1, api.ErrKind, "C-1:1 .0", "C-1:1 .0:1")
	checkDrawn(t, 3, api.ErrArg, "C-1:1 P0 A0 A1")
	checkDrawn(t, 2, api.ErrKind, "C-1:1 P0 F1", "C-1:1 P0 .1")
	c := drawn(t, "C-1:1 A0")
	c.States[1].Kind = math.MaxInt
	checkFault(t, c, 1, api.ErrKind)
}

// Its Initial has one state of a Compound or of a history, none of others.

func TestHowManyInitial(t *testing.T) {
	const all = "C-1:1 C0:2 A1 S1:2 D1:2 P0 A5 F0"
	checkMayDrawn(t, all)
	for s, state := range drawn(t, all).States {
		for _, initial := range [][]int{nil, {}, {2}, {2, 2}, {6}, {1}, {1, 2}, {2, 6, 7}, {0}, {7}} {
			c := drawn(t, all)
			c.States[s].Initial = initial
			has := len(initial) == 1
			switch state.Kind {
			case api.Atomic, api.Parallel, api.Final:
				if len(initial) > 0 {
					checkFault(t, c, s, api.ErrTarget)
				} else {
					checkMay(t, c)
				}
			default:
				of := map[int][]int{0: {1, 2, 6, 7}, 1: {2}, 3: {2}, 4: {2}}[s]
				if has && slices.Contains(of, initial[0]) {
					checkMay(t, c)
				} else {
					checkFault(t, c, s, api.ErrTarget)
				}
			}
		}
	}
}

// initials asks which Initial a state of rich may have: those, and no others.
func initials(t *testing.T, s int, may ...int) {
	t.Helper()
	for first := -2; first < 26; first++ {
		c := drawn(t, rich)
		c.States[s].Initial = []int{first}
		if slices.Contains(may, first) {
			checkMay(t, c)
		} else {
			checkFault(t, c, s, api.ErrTarget)
		}
	}
}

// A Compound's Initial is in it, and no history; a history's is a child of its
// Parent, of Deep one in it, and no history.

func TestWhichInitial(t *testing.T) {
	initials(t, 0, 1, 2, 3, 4, 5, 8, 9, 10, 11, 12, 13, 14, 15, 17, 18, 19, 21, 22)
	initials(t, 1, 2, 3, 4, 5, 8)
	initials(t, 3, 4, 5)
	initials(t, 6, 4, 5)
	initials(t, 7, 2, 3, 4, 5, 8)
	initials(t, 10, 11, 12, 13, 14, 15)
	initials(t, 14, 15)
	initials(t, 16, 11, 12)
	initials(t, 17, 18, 19)
	initials(t, 20, 10, 11, 12, 13, 14, 15, 17, 18, 19, 21)
	initials(t, 9)
	initials(t, 2)
	initials(t, 5)
}

// What is in a state is so by states behind it as they are, whatever fault
// they have; one whose Parent isn't ahead of it is in none.

func TestInitialAmongFaults(t *testing.T) {
	checkDrawn(t, 2, api.ErrKind, "C-1:2 A0 A1", "C-1:2 A0 .1", "C-1:2 A0 .0")
	checkDrawn(t, 3, api.ErrArg, "C-1:4 A0 A0 A1 A3")
	checkDrawn(t, 0, api.ErrTarget, "C-1:2 A0 A2", "C-1:2 A0 A3 A2", "C-1:2 A0 A3 A0", "C-1:2 A0 A-1", "C-1:2 A0 A4", "C-1:3 A0 A3 A2", "C-1:2 A0 S0:1", "C-1:2 A0 D1:1")
	// Of a Shallow one just a child of its Parent, of a Deep one what is in it:
	checkDrawn(t, 5, api.ErrArg, "C-1:1 C0:2 A1 S1:5 A0 A1", "C-1:1 C0:2 A1 D1:5 A0 A1")
	checkDrawn(t, 5, api.ErrKind, "C-1:1 C0:2 A1 D1:5 A1 A4")
	checkDrawn(t, 3, api.ErrTarget, "C-1:1 C0:2 A1 S1:5 A1 A4", "C-1:1 C0:2 A1 D1:4 A4", "C-1:1 C0:2 A1 S1:4 A4")
}

// R1: of one state's faults the first in the chapter's order. All sets of them
// are tried: state 3 is at fault; those ahead of it aren't.

func TestFaultsOfOneState(t *testing.T) {
	codes := []api.Code{api.ErrKind, api.ErrArg, api.ErrKind, api.ErrNone, api.ErrTarget, api.ErrArg}
	for set := range 1 << len(codes) {
		has := func(i int) bool { return set>>i&1 == 1 }
		c := drawn(t, "C-1:1 A0 A0 C0:4 A3")
		s := &c.States[3]
		if has(0) {
			s.Kind = 7
		}
		s.Parent = map[[2]bool]int{{}: 0, {true, false}: -1, {false, true}: 2, {true, true}: 1}[[2]bool{has(1), has(2)}]
		if has(3) {
			c.States[4].Kind = api.Deep
		}
		if has(4) {
			s.Initial = nil
		}
		if has(5) {
			s.Exit = []api.Act{{Kind: api.Raise}}
		}
		first := slices.IndexFunc([]int{0, 1, 2, 3, 4, 5}, has)
		if first < 0 {
			checkMay(t, c)
		} else {
			checkFault(t, c, 3, codes[first])
		}
	}
	checkDrawn(t, 0, api.ErrKind, "P5", "A5:1 A0")
	checkDrawn(t, 0, api.ErrArg, "C5", "C5:7")
}

// A history has no Entry and no Exit actions, not even such as may be; each
// other one may have.

func TestActionsOfStates(t *testing.T) {
	sound := []api.Act{{Kind: api.Raise, N: 1}}
	for s, state := range drawn(t, rich).States {
		for place := range 3 {
			c := drawn(t, rich)
			if place != 1 {
				c.States[s].Entry = sound
			}
			if place != 0 {
				c.States[s].Exit = sound
			}
			if state.Kind == api.Shallow || state.Kind == api.Deep {
				checkFault(t, c, s, api.ErrArg)
			} else {
				checkMay(t, c)
			}
		}
		c := drawn(t, rich)
		c.States[s].Entry, c.States[s].Exit = []api.Act{}, []api.Act{}
		checkMay(t, c)
	}
}
