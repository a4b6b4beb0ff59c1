package engine_test

import (
	"testing"

	"spinet/api"
)

// taking is a transition of nest for event 7, what is active when that comes, what
// is logged, what is active behind it, and what histories have then.
type taking struct {
	trans  api.Trans
	conf   uint32
	logs   []int64
	behind uint32
	keeps  map[int][]int
}

func checkTakings(t *testing.T, rows ...taking) {
	t.Helper()
	for _, row := range rows {
		one := loudly(t, nest, row.trans)
		want := standing(one, row.behind).logs(row.logs...)
		for h, of := range row.keeps {
			want = want.keeps(h, of...)
		}
		checkTake(t, one, standing(one, row.conf), 7, want)
	}
}

// What histories have once the Parallel of nest was left, and once 2 was.
var (
	kept3 = map[int][]int{7: {5}, 13: {10, 12}, 19: {17}}
	kept2 = map[int][]int{7: {5}, 13: {10, 12}, 19: {17}, 20: {3}}
)

// P15.1: one step between two leaves, from and into Compounds and Parallels.

func TestBetweenTwoLeaves(t *testing.T) {
	checkTakings(t,
		taking{on(7, 5, 6), inner, []int64{205, 300, 106}, inner&^set(5) | set(6), nil},
		taking{on(7, 10, 11), inner, []int64{210, 300, 111}, inner&^set(10) | set(11), nil},
		taking{on(7, 1, 21), set(0, 1), []int64{201, 300, 102, 121}, set(0, 2, 21), nil},
		taking{on(7, 21, 1), set(0, 2, 21), []int64{221, 202, 300, 101}, set(0, 1), map[int][]int{20: {21}}},
	)
}

func TestFromACompound(t *testing.T) {
	checkTakings(t,
		taking{on(7, 16, 15), inner, []int64{217, 216, 300, 115}, inner&^set(16, 17) | set(15), nil},
		taking{on(7, 2, 1), set(0, 2, 21), []int64{221, 202, 300, 101}, set(0, 1), map[int][]int{20: {21}}},
		taking{on(7, 2, 1), inner, []int64{217, 216, 214, 212, 210, 209, 208, 205, 204, 203, 202, 300, 101}, set(0, 1), kept2},
	)
}

func TestIntoACompound(t *testing.T) {
	checkTakings(t,
		taking{on(7, 15, 16), inner&^set(16, 17) | set(15), []int64{215, 300, 116, 117}, inner, nil},
		taking{on(7, 15, 18), inner&^set(16, 17) | set(15), []int64{215, 300, 116, 118}, inner&^set(17) | set(18), nil},
		taking{on(7, 1, 2), set(0, 1), []int64{201, 300, 102, 103, 104, 105, 108, 109, 110, 112, 114, 115}, inner&^set(16, 17) | set(15), nil},
		taking{on(7, 1, 16), set(0, 1), []int64{201, 300, 102, 103, 104, 105, 108, 109, 110, 112, 114, 116, 117}, inner, nil},
	)
}

func TestFromAndIntoAParallel(t *testing.T) {
	checkTakings(t,
		taking{on(7, 3, 21), inner, []int64{217, 216, 214, 212, 210, 209, 208, 205, 204, 203, 300, 121}, set(0, 2, 21), kept3},
		taking{on(7, 21, 3), set(0, 2, 21), []int64{221, 300, 103, 104, 105, 108, 109, 110, 112, 114, 115}, inner&^set(16, 17) | set(15), nil},
		taking{on(7, 8, 1), inner, []int64{217, 216, 214, 212, 210, 209, 208, 205, 204, 203, 202, 300, 101}, set(0, 1), kept2},
		taking{on(7, 1, 12), set(0, 1), []int64{201, 300, 102, 103, 104, 105, 108, 109, 110, 112, 114, 115}, inner&^set(16, 17) | set(15), nil},
	)
}

// Without Targets just the Acts are done, be it Internal or not.

func TestWithoutTargets(t *testing.T) {
	for _, source := range []int{2, 3, 4, 5, 8, 9, 10, 12, 14, 16, 17} {
		checkTakings(t,
			taking{on(7, source), inner, []int64{300}, inner, nil},
			taking{within(on(7, source)), inner, []int64{300}, inner, nil},
		)
	}
}

// The Source is left and entered again, where its Targets are in it, or it is
// itself the Target.

func TestTheSourceAgain(t *testing.T) {
	checkTakings(t,
		taking{on(7, 5, 5), inner, []int64{205, 300, 105}, inner, nil},
		taking{on(7, 16, 17), inner, []int64{217, 216, 300, 116, 117}, inner, nil},
		taking{on(7, 16, 16), inner, []int64{217, 216, 300, 116, 117}, inner, nil},
		taking{on(7, 4, 6), inner, []int64{217, 216, 214, 212, 210, 209, 208, 205, 204, 203, 300, 103, 104, 106, 108, 109, 110, 112, 114, 115},
			inner&^set(5, 16, 17) | set(6, 15), kept3},
	)
}

// It isn't, where it is Internal, a Compound, and all Targets are in it.

func TestInternal(t *testing.T) {
	checkTakings(t,
		taking{within(on(7, 16, 17)), inner, []int64{217, 300, 117}, inner, nil},
		taking{within(on(7, 16, 18)), inner, []int64{217, 300, 118}, inner&^set(17) | set(18), nil},
		taking{within(on(7, 4, 6)), inner, []int64{205, 300, 106}, inner&^set(5) | set(6), nil},
		taking{within(on(7, 14, 15)), inner, []int64{217, 216, 300, 115}, inner&^set(16, 17) | set(15), nil},
		taking{within(on(7, 14, 18)), inner, []int64{217, 216, 300, 116, 118}, inner&^set(17) | set(18), nil},
		taking{within(on(7, 2, 21)), inner, []int64{217, 216, 214, 212, 210, 209, 208, 205, 204, 203, 300, 121}, set(0, 2, 21), kept3},
		taking{within(on(7, 2, 6, 10, 17)), inner, []int64{217, 216, 214, 212, 210, 209, 208, 205, 204, 203, 300, 103, 104, 106, 108, 109, 110, 112, 114, 116, 117},
			inner&^set(5) | set(6), kept3},
	)
}

// Internal, but the Source is no Compound, or a Target isn't in it, or is itself.

func TestInternalThatIsNot(t *testing.T) {
	out := []int64{217, 216, 214, 212, 210, 209, 208, 205, 204, 203}
	checkTakings(t,
		taking{within(on(7, 16, 16)), inner, []int64{217, 216, 300, 116, 117}, inner, nil},
		taking{within(on(7, 16, 15)), inner, []int64{217, 216, 300, 115}, inner&^set(16, 17) | set(15), nil},
		taking{within(on(7, 3, 6)), inner, append(out[:10:10], 300, 103, 104, 106, 108, 109, 110, 112, 114, 115), inner&^set(5, 16, 17) | set(6, 15), kept3},
		taking{within(on(7, 8, 11)), inner, append(out[:10:10], 300, 103, 104, 105, 108, 109, 111, 112, 114, 115), inner&^set(10, 16, 17) | set(11, 15), kept3},
		taking{within(on(7, 14, 15, 6)), inner, append(out[:10:10], 300, 103, 104, 106, 108, 109, 110, 112, 114, 115), inner&^set(5, 16, 17) | set(6, 15), kept3},
		taking{within(on(7, 4, 15)), inner, append(out[:10:10], 300, 103, 104, 105, 108, 109, 110, 112, 114, 115), inner&^set(16, 17) | set(15), kept3},
		taking{within(on(7, 2, 1)), inner, append(out[:10:10], 202, 300, 101), set(0, 1), kept2},
		taking{within(on(7, 17, 17)), inner, []int64{217, 300, 117}, inner, nil},
	)
}

// A history among the Targets counts as its Parent: an Internal transition to the
// Source's own history leaves the Source, and one to a history further in doesn't.

func TestInternalToAHistory(t *testing.T) {
	out := []int64{217, 216, 214, 212, 210, 209, 208, 205, 204, 203}
	checkTakings(t,
		taking{within(on(7, 14, 19)), inner, append(out[:10:10], 300, 103, 104, 105, 108, 109, 110, 112, 114, 116, 117), inner, kept3},
		taking{within(on(7, 2, 20)), inner, append(out[:10:10], 202, 300, 102, 103, 104, 105, 108, 109, 110, 112, 114, 115), inner&^set(16, 17) | set(15), kept2},
		taking{within(on(7, 2, 19)), inner, append(out[:10:10], 300, 103, 104, 105, 108, 109, 110, 112, 114, 116, 117), inner, kept3},
		taking{within(on(7, 2, 7, 19)), inner, append(out[:10:10], 300, 103, 104, 105, 108, 109, 110, 112, 114, 116, 117), inner, kept3},
	)
}

// A Target's other regions are entered by default; those of several Targets as
// these tell.

func TestSeveralTargets(t *testing.T) {
	checkTakings(t,
		taking{on(7, 1, 6, 18), set(0, 1), []int64{201, 300, 102, 103, 104, 106, 108, 109, 110, 112, 114, 116, 118}, inner&^set(5, 17) | set(6, 18), nil},
		taking{on(7, 1, 18, 6), set(0, 1), []int64{201, 300, 102, 103, 104, 106, 108, 109, 110, 112, 114, 116, 118}, inner&^set(5, 17) | set(6, 18), nil},
		taking{on(7, 1, 16, 11, 6), set(0, 1), []int64{201, 300, 102, 103, 104, 106, 108, 109, 111, 112, 114, 116, 117}, inner&^set(5, 10) | set(6, 11), nil},
		taking{on(7, 21, 6, 12), set(0, 2, 21), []int64{221, 300, 103, 104, 106, 108, 109, 110, 112, 114, 115}, inner&^set(5, 16, 17) | set(6, 15), nil},
		taking{on(7, 5, 6, 17), inner, []int64{217, 216, 214, 212, 210, 209, 208, 205, 204, 203, 300, 103, 104, 106, 108, 109, 110, 112, 114, 116, 117},
			inner&^set(5) | set(6), kept3},
	)
}

// Two transitions at once, in two regions: their Acts are done in the order in
// which they were gathered, all between what is left and what is entered.

func TestTwoAtOnce(t *testing.T) {
	one := loudly(t, nest, on(7, 17, 18), on(7, 5, 6), on(8, 10, 11), on(8, 4), within(on(8, 14, 15)), on(9, 12, 12), on(9, 4))
	s := standing(one, inner)
	checkTake(t, one, s, 7, standing(one, inner&^set(5, 17)|set(6, 18)).logs(217, 205, 301, 300, 106, 118))
	checkTake(t, one, s, 8, standing(one, inner&^set(10, 16, 17)|set(11, 15)).logs(217, 216, 210, 303, 302, 304, 111, 115))
	checkTake(t, one, s, 9, standing(one, inner&^set(16, 17)|set(15)).keeps(7, 5).keeps(13, 10, 12).keeps(19, 17).
		logs(217, 216, 214, 212, 210, 209, 208, 205, 204, 203, 306, 305, 103, 104, 105, 108, 109, 110, 112, 114, 115))
}

// An Exit reads the variables as they were, the Acts as that left them, and an
// Entry as these did.

func TestVariablesInAStep(t *testing.T) {
	c := drawn("C(C(A A) A)", does(on(7, 1, 4), assign(0, "a*10"), log("a")))
	c.States[1].Exit = []api.Act{assign(0, "a+b"), log("a")}
	c.States[2].Exit = []api.Act{assign(1, "b+1"), log("b")}
	c.States[4].Entry = []api.Act{assign(2, "a-b"), log("c")}
	one := made(t, c)
	checkTake(t, one, standing(one, set(0, 1, 2)).with(5, 1, 0), 7, standing(one, set(0, 4)).with(70, 2, 68).logs(2, 7, 70, 68))
}

// A mishap ends just the list that it is in.

func TestMishapsInAStep(t *testing.T) {
	c := drawn("C(C(A A) A)", does(on(7, 1, 4), log("3"), log("1/b"), log("4")), does(on(api.EventError, 4), log("9")))
	c.States[1].Exit = []api.Act{log("2"), assign(2, "a%b"), log("20")}
	c.States[2].Exit = []api.Act{log("1"), {Kind: api.Send, N: 5, Expr: "1/0"}, log("10")}
	c.States[4].Entry = []api.Act{log("5"), log("0%0"), raise(8)}
	one := made(t, c)
	checkTake(t, one, standing(one, set(0, 1, 2)).with(5, 0, 6), 7, standing(one, set(0, 4)).with(5, 0, 6).logs(1, 2, 3, 5, 9, 9, 9, 9))
}
