package leave_test

import (
	"slices"
	"testing"

	"spinet/api"
	"spinet/leave"
)

// goes is a Source, Targets, and the reaches, without Internal and with it.
type goes struct {
	source          int
	targets         []int
	plain, internal int
}

// checkGoes asks for the reach of each, at its place among all, with the Targets
// in each order, too.
func checkGoes(t *testing.T, text string, all []goes) {
	t.Helper()
	if len(all) > 20 {
		t.Fatalf("%d are too many for one chart", len(all))
	}
	c := drawn(text)
	for _, one := range all {
		c.Trans = append(c.Trans, to(one.source, one.targets...), within(one.source, one.targets...))
	}
	for range 3 {
		planted := planted(t, c)
		for i, one := range all {
			checkReach(t, planted, 2*i, one.plain)
			checkReach(t, planted, 2*i+1, one.internal)
		}
		for i := range c.Trans {
			c.Trans[i].Targets = turned(c.Trans[i].Targets)
		}
	}
	slices.Reverse(c.Trans)
	last := len(c.Trans) - 1
	planted := planted(t, c)
	for i, one := range all {
		checkReach(t, planted, last-2*i, one.plain)
		checkReach(t, planted, last-2*i-1, one.internal)
	}
}

// turned is a row whose first one stands behind the others.
func turned(l []int) []int {
	if len(l) == 0 {
		return l
	}
	return append(slices.Clone(l[1:]), l[0])
}

// P9.1: no Targets: none, from wherever.

func TestNoTargets(t *testing.T) {
	checkGoes(t, rich, []goes{
		{1, nil, -1, -1}, {2, nil, -1, -1}, {5, nil, -1, -1}, {11, nil, -1, -1}, {12, nil, -1, -1},
		{14, nil, -1, -1}, {16, []int{}, -1, -1}, {17, []int{}, -1, -1}, {21, []int{}, -1, -1},
	})
	checkGoes(t, smallest, []goes{{1, nil, -1, -1}})
	checkGoes(t, chain(), []goes{{1, nil, -1, -1}, {12, nil, -1, -1}, {23, nil, -1, -1}})
}

// From an Atomic: what it and the target are joined in; Internal changes nothing.

func TestFromAnAtomic(t *testing.T) {
	checkGoes(t, rich, []goes{
		{6, []int{6}, 5, 5},
		{6, []int{7}, 5, 5},
		{6, []int{5}, 2, 2}, // above it
		{6, []int{4}, 2, 2},
		{6, []int{9}, 2, 2},
		{6, []int{2}, 0, 0},
		{6, []int{1}, 0, 0},
		{6, []int{22}, 0, 0},
		{6, []int{17}, 0, 0},
		{4, []int{5}, 2, 2},
		{4, []int{7}, 2, 2},
		{4, []int{4}, 2, 2},
		{1, []int{1}, 0, 0},
		{1, []int{7}, 0, 0},
		{1, []int{18}, 0, 0},
		{21, []int{13}, 0, 0}, // they part in the Parallel 11
	})
	checkGoes(t, rich, []goes{
		{17, []int{17}, 16, 16},
		{17, []int{18}, 16, 16},
		{17, []int{16}, 12, 12},
		{17, []int{15}, 12, 12}, // they part in the Parallel 14
		{17, []int{14}, 12, 12},
		{17, []int{13}, 12, 12},
		{17, []int{12}, 0, 0},
		{17, []int{21}, 0, 0},
		{17, []int{11}, 0, 0},
		{15, []int{15}, 12, 12}, // right in the Parallel 14
		{15, []int{18}, 12, 12},
		{15, []int{16}, 12, 12},
		{13, []int{17}, 12, 12},
		{13, []int{14}, 12, 12},
		{21, []int{21}, 0, 0}, // right in the Parallel 11
	})
	checkGoes(t, smallest, []goes{{1, []int{1}, 0, 0}})
}

// From a Compound: itself, if it is Internal, and the target is in it.

func TestFromACompound(t *testing.T) {
	checkGoes(t, rich, []goes{
		{5, []int{6}, 2, 5},
		{5, []int{7}, 2, 5},
		{5, []int{5}, 2, 2}, // a target itself
		{5, []int{4}, 2, 2},
		{5, []int{9}, 2, 2},
		{5, []int{2}, 0, 0},
		{5, []int{1}, 0, 0},
		{5, []int{13}, 0, 0},
		{2, []int{4}, 0, 2},
		{2, []int{5}, 0, 2},
		{2, []int{6}, 0, 2},
		{2, []int{7}, 0, 2},
		{2, []int{9}, 0, 2},
		{2, []int{2}, 0, 0},
		{2, []int{1}, 0, 0},
		{2, []int{22}, 0, 0},
		{2, []int{11}, 0, 0},
	})
	checkGoes(t, rich, []goes{
		{16, []int{17}, 12, 16},
		{16, []int{18}, 12, 16},
		{16, []int{16}, 12, 12},
		{16, []int{15}, 12, 12},
		{16, []int{14}, 12, 12},
		{16, []int{13}, 12, 12},
		{16, []int{12}, 0, 0},
		{16, []int{21}, 0, 0},
		{12, []int{13}, 0, 12}, // right in the Parallel 11
		{12, []int{14}, 0, 12},
		{12, []int{15}, 0, 12},
		{12, []int{17}, 0, 12},
		{12, []int{12}, 0, 0},
		{12, []int{11}, 0, 0},
		{12, []int{21}, 0, 0},
	})
}

// From a Parallel: Internal changes nothing; it isn't a reach, nor is one that
// it is in.

func TestFromAParallel(t *testing.T) {
	checkGoes(t, rich, []goes{
		{14, []int{15}, 12, 12},
		{14, []int{16}, 12, 12},
		{14, []int{17}, 12, 12},
		{14, []int{14}, 12, 12},
		{14, []int{13}, 12, 12},
		{14, []int{12}, 0, 0},
		{14, []int{21}, 0, 0},
		{14, []int{15, 17}, 12, 12},
		{11, []int{12}, 0, 0},
		{11, []int{21}, 0, 0},
		{11, []int{17}, 0, 0},
		{11, []int{11}, 0, 0},
		{11, []int{1}, 0, 0},
		{11, []int{21, 18}, 0, 0},
	})
	checkGoes(t, nest, []goes{
		{3, []int{4}, 2, 2},
		{3, []int{3}, 2, 2},
		{3, []int{21}, 2, 2},
		{3, []int{2}, 0, 0},
		{3, []int{1}, 0, 0},
		{3, []int{6, 10, 17}, 2, 2},
		{8, []int{9}, 2, 2}, // a Parallel in a Parallel
		{8, []int{10}, 2, 2},
		{8, []int{8}, 2, 2},
		{8, []int{5}, 2, 2},
		{8, []int{10, 12}, 2, 2},
		{8, []int{13}, 2, 2},
	})
}

// A history counts as its Parent: as one in the Source it is in it, if that is.

func TestHistoryAsTarget(t *testing.T) {
	checkGoes(t, rich, []goes{
		{1, []int{3}, 0, 0},
		{1, []int{8}, 0, 0},
		{1, []int{20}, 0, 0},
		{4, []int{8}, 2, 2}, // beside the Source: as 5
		{6, []int{8}, 2, 2}, // its Parent is above the Source: as 5
		{6, []int{3}, 0, 0},
		{6, []int{10}, 0, 0},
		{4, []int{3}, 0, 0},
		{4, []int{10}, 0, 0},
		{5, []int{8}, 2, 2}, // right in the Source
		{5, []int{3}, 0, 0},
		{5, []int{10}, 0, 0},
		{2, []int{3}, 0, 0},
		{2, []int{10}, 0, 0},
		{2, []int{8}, 0, 2}, // as 5, which is in the Source
		{2, []int{19}, 0, 0},
		{2, []int{20}, 0, 0},
	})
	checkGoes(t, rich, []goes{
		{17, []int{19}, 12, 12}, // as 14
		{15, []int{19}, 12, 12},
		{13, []int{19}, 12, 12},
		{16, []int{19}, 12, 12},
		{14, []int{19}, 12, 12},
		{12, []int{19}, 0, 12},
		{11, []int{19}, 0, 0},
		{21, []int{19}, 0, 0},
		{17, []int{20}, 0, 0}, // as 11
		{13, []int{20}, 0, 0},
		{16, []int{20}, 0, 0},
		{14, []int{20}, 0, 0},
		{12, []int{20}, 0, 0},
		{11, []int{20}, 0, 0},
		{21, []int{20}, 0, 0},
		{11, []int{8}, 0, 0},
	})
}

// A history that is deep in the Source, and one beside one.

func TestHistoryFurtherIn(t *testing.T) {
	checkGoes(t, nest, []goes{
		{2, []int{7}, 0, 2},
		{2, []int{13}, 0, 2},
		{2, []int{19}, 0, 2},
		{2, []int{20}, 0, 0},
		{4, []int{7}, 2, 2},
		{5, []int{7}, 2, 2},
		{14, []int{19}, 2, 2},
		{17, []int{19}, 2, 2},
		{15, []int{19}, 2, 2},
		{17, []int{20}, 0, 0},
		{17, []int{13}, 2, 2},
		{16, []int{19}, 2, 2},
		{3, []int{19}, 2, 2},
		{3, []int{20}, 0, 0},
		{21, []int{20}, 0, 0},
		{21, []int{7}, 2, 2},
		{1, []int{7}, 0, 0},
		{9, []int{13}, 2, 2},
		{12, []int{13}, 2, 2},
	})
	// A history whose Parent is right in the Source, or far in it, along Compounds.
	checkGoes(t, "C(C(C(C(A A D) S) A D) A)", []goes{ // 1 C; 2 C; 3 C; 4, 5, 6 D; 7 S; 8; 9 D; 10
		{1, []int{6}, 0, 1},
		{1, []int{7}, 0, 1},
		{1, []int{9}, 0, 0},
		{2, []int{6}, 1, 2},
		{2, []int{7}, 1, 1},
		{2, []int{9}, 0, 0},
		{3, []int{6}, 2, 2},
		{3, []int{7}, 1, 1},
		{4, []int{6}, 2, 2},
		{4, []int{7}, 1, 1},
		{4, []int{9}, 0, 0},
		{8, []int{6}, 1, 1},
		{8, []int{7}, 1, 1},
		{8, []int{9}, 0, 0},
		{10, []int{6}, 0, 0},
	})
}

// Two Targets.

func TestTwoTargets(t *testing.T) {
	checkGoes(t, rich, []goes{
		{12, []int{15, 17}, 0, 12}, // both in it
		{12, []int{15, 16}, 0, 12},
		{12, []int{15, 18}, 0, 12},
		{12, []int{13, 21}, 0, 0}, // one of them in it
		{12, []int{12, 21}, 0, 0}, // one of them itself
		{12, []int{19, 21}, 0, 0},
		{16, []int{15, 17}, 12, 12},
		{16, []int{15, 16}, 12, 12},
		{16, []int{17, 21}, 0, 0},
		{17, []int{15, 18}, 12, 12},
		{15, []int{15, 17}, 12, 12},
		{13, []int{15, 17}, 12, 12},
		{17, []int{18, 21}, 0, 0},
		{17, []int{14, 21}, 0, 0},
		{17, []int{19, 21}, 0, 0},
		{1, []int{15, 17}, 0, 0},
		{2, []int{15, 17}, 0, 0},
	})
	checkGoes(t, nest, []goes{
		{2, []int{5, 10}, 0, 2},
		{2, []int{7, 17}, 0, 2}, // a history beside another one
		{2, []int{13, 19}, 0, 2},
		{2, []int{10, 12}, 0, 2},
		{4, []int{6, 17}, 2, 2},
		{4, []int{7, 17}, 2, 2},
		{4, []int{4, 14}, 2, 2},
		{14, []int{19, 6}, 2, 2},
		{14, []int{17, 12}, 2, 2},
		{16, []int{17, 12}, 2, 2},
		{17, []int{18, 11}, 2, 2},
		{21, []int{7, 13}, 2, 2},
		{1, []int{7, 13}, 0, 0},
		{9, []int{10, 12}, 2, 2},
		{9, []int{10, 6}, 2, 2},
	})
}

// Three Targets.

func TestThreeTargets(t *testing.T) {
	checkGoes(t, nest, []goes{
		{2, []int{4, 8, 14}, 0, 2},
		{2, []int{6, 11, 18}, 0, 2},
		{2, []int{7, 13, 19}, 0, 2},
		{2, []int{7, 12, 17}, 0, 2},
		{2, []int{10, 12, 5}, 0, 2},
		{3, []int{4, 8, 14}, 2, 2},
		{4, []int{5, 10, 15}, 2, 2},
		{4, []int{7, 13, 19}, 2, 2},
		{8, []int{10, 12, 5}, 2, 2},
		{14, []int{16, 12, 4}, 2, 2},
		{16, []int{17, 12, 4}, 2, 2},
		{5, []int{6, 13, 19}, 2, 2},
		{17, []int{18, 11, 7}, 2, 2},
		{21, []int{6, 10, 17}, 2, 2},
		{1, []int{6, 10, 17}, 0, 0},
	})
	checkGoes(t, rich, []goes{
		{12, []int{15, 17, 21}, 0, 0}, // two of them in it
		{16, []int{15, 17, 21}, 0, 0},
		{17, []int{15, 18, 21}, 0, 0},
		{21, []int{15, 18, 21}, 0, 0},
		{1, []int{15, 16, 21}, 0, 0},
	})
}

// All but the last of the Targets are in the Source, whichever that is.

func TestOneOfSeveralIsNotInTheSource(t *testing.T) {
	const four = "C(C(P(C(A A) A A A)) A)" // 1 C; 2 P; 3 C (4, 5), 6, 7, 8; 9
	checkGoes(t, four, []goes{
		{1, []int{6, 7, 8}, 0, 1},
		{1, []int{4, 7, 8}, 0, 1},
		{3, []int{4, 7, 8}, 1, 1},
		{3, []int{4, 7}, 1, 1},
		{3, []int{4}, 1, 3},
		{3, []int{7, 8}, 1, 1},
	})
	const regions = "C(P(C(P(A A)) A) A)" // 1 P; 2 C; 3 P (4, 5), 6; 7
	checkGoes(t, regions, []goes{
		{2, []int{4, 5}, 0, 2},
		{2, []int{4, 5, 6}, 0, 0},
		{2, []int{4, 6}, 0, 0},
		{2, []int{6}, 0, 0},
		{2, []int{3}, 0, 2},
		{2, []int{2, 6}, 0, 0},
	})
}

// A chain of 24 states: what stands further out of two counts; Internal it is the
// Source, if that is further out than the target.

func TestChains(t *testing.T) {
	for source := 1; source < 24; source++ {
		c := drawn(chain())
		for s := 1; s < 24; s++ {
			c.Trans = append(c.Trans, to(source, s))
		}
		one := planted(t, c)
		for s := 1; s < 24; s++ {
			checkReach(t, one, s-1, min(source, s)-1)
		}
		for i := range c.Trans {
			c.Trans[i].Internal = true
		}
		one = planted(t, c)
		for s := 1; s < 24; s++ {
			want := s - 1
			if source < s {
				want = source
			}
			checkReach(t, one, s-1, want)
		}
	}
}

// A chain in which each second state is a Parallel: the reach is above these.

func TestMixedChain(t *testing.T) {
	above := func(s int) int { return (s - 1) / 2 * 2 }
	for source := 1; source < 24; source++ {
		c := drawn(mixed())
		for s := 1; s < 24; s++ {
			c.Trans = append(c.Trans, to(source, s))
		}
		one := planted(t, c)
		for s := 1; s < 24; s++ {
			checkReach(t, one, s-1, above(min(source, s)))
		}
		for i := range c.Trans {
			c.Trans[i].Internal = true
		}
		one = planted(t, c)
		for s := 1; s < 24; s++ {
			want := above(min(source, s))
			if source < s && source%2 == 0 {
				want = source
			}
			checkReach(t, one, s-1, want)
		}
	}
}

// A first state, and a Parallel, with as many children as there can be.

func TestMostChildren(t *testing.T) {
	for source := 1; source < 23; source++ {
		c := drawn(flat())
		for s := 1; s < 24; s++ {
			c.Trans = append(c.Trans, within(source, s))
		}
		one := planted(t, c)
		for i := range c.Trans {
			checkReach(t, one, i, 0)
			checkSet(t, one, full, i, upTo(1, 23)...)
		}
		c = drawn(wide())
		for s := 2; s < 22; s++ {
			c.Trans = append(c.Trans, to(source, s, s+1, s+2), within(source, s))
		}
		one = planted(t, c)
		for i := range c.Trans {
			checkReach(t, one, i, 0)
		}
	}
}

// As many transitions as there can be: each is told of itself.

func TestMostTransitions(t *testing.T) {
	c := drawn(rich)
	for range 10 {
		c.Trans = append(c.Trans, to(17, 18), to(6, 7), to(1), within(2, 6))
	}
	one := planted(t, c)
	for i := range 40 {
		checkReach(t, one, i, []int{16, 5, -1, 2}[i%4])
	}
	if got := leave.Reach(one, 40); got != -1 {
		t.Errorf("Reach of the 41st = %d", got)
	}
}

// Event, Guard and Acts change nothing.

func TestReachHangsOnNothingElse(t *testing.T) {
	c := drawn(rich, to(6, 7), within(2, 6), to(1), to(17, 12))
	c.Vars = 1
	for i, event := range []int{0, 1000, 1001, 2005} {
		c.Trans[i].Event = event
		c.Trans[i].Guard = []string{"false", "1/0 == 1", "a < 3", ""}[i]
		c.Trans[i].Acts = log("a")
	}
	c.States[5].Entry, c.States[5].Exit = log("1"), log("2")
	one := planted(t, c)
	for i, want := range []int{5, 2, -1, 0} {
		checkReach(t, one, i, want)
	}
}

func log(expr string) []api.Act { return []api.Act{{Kind: api.Log, Expr: expr}} }
