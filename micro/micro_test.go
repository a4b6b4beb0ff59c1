package micro_test

import (
	"strings"
	"testing"

	"spinet/api"
	"spinet/tree"
)

// P12.1: Begin of ordinary charts, and of such as have as little, or as much, as
// they may.

func TestBegin(t *testing.T) {
	for _, s := range []string{smallest, nest, chain(), mixed(), flat(), wide()} {
		for _, vars := range []int{0, 1, 3, api.MaxVars} {
			c := drawn(s)
			c.Vars = vars
			one := planted(t, c)
			run := begun(one)
			if run.Conf != 0 || len(run.Inner) != 0 || run.Status != api.Going {
				t.Errorf("Begin = %v", run)
			}
			if len(run.Hist) != len(c.States) || len(run.Env) != vars {
				t.Errorf("Begin = %v, of %d states and %d variables", run, len(c.States), vars)
			}
			checkSame(t, "begin", run, standing(one, 0))
		}
	}
}

// Nothing is done by it.

func TestBeginDoesNothing(t *testing.T) {
	one := loudly(t, nest, to(1, 2))
	checkSame(t, "begin", begun(one), standing(one, 0))
}

// P12.1: ordinary steps with one transition, of one chart: from where, with which
// transition, what happens, and what is active behind it.

type ordinary struct {
	trans    api.Trans
	conf     uint32
	happened []int
	behind   uint32
}

func checkOrdinary(t *testing.T, rows ...ordinary) {
	t.Helper()
	for _, row := range rows {
		one := loudly(t, nest, row.trans)
		was := standing(one, row.conf)
		got := was.stepped(one, 0)
		want := standing(one, row.behind).happens(row.happened...)
		want.Hist = got.Hist // history_test.go asks for these
		checkSame(t, "step", got, want)
	}
}

func TestBetweenTwoLeaves(t *testing.T) {
	checkOrdinary(t,
		ordinary{to(5, 6), inner, []int{205, 300, 106}, inner&^set(5) | set(6)},
		ordinary{to(10, 11), inner, []int{210, 300, 111, done(9)}, inner&^set(10) | set(11)},
		ordinary{to(1, 21), set(0, 1), []int{201, 300, 102, 121}, set(0, 2, 21)},
		ordinary{to(21, 1), set(0, 2, 21), []int{221, 202, 300, 101}, set(0, 1)},
	)
}

func TestFromACompound(t *testing.T) {
	checkOrdinary(t,
		ordinary{to(16, 15), inner, []int{217, 216, 300, 115}, inner&^set(16, 17) | set(15)},
		ordinary{to(2, 1), set(0, 2, 21), []int{221, 202, 300, 101}, set(0, 1)},
		ordinary{within(14, 15), inner, []int{217, 216, 300, 115}, inner&^set(16, 17) | set(15)},
	)
}

func TestIntoACompound(t *testing.T) {
	checkOrdinary(t,
		ordinary{to(15, 16), inner&^set(16, 17) | set(15), []int{215, 300, 116, 117}, inner},
		ordinary{to(15, 18), inner&^set(16, 17) | set(15), []int{215, 300, 116, 118, done(16)}, inner&^set(17) | set(18)},
		ordinary{to(1, 2), set(0, 1), []int{201, 300, 102, 103, 104, 105, 108, 109, 110, 112, 114, 115}, inner&^set(16, 17) | set(15)},
		ordinary{to(1, 16), set(0, 1), []int{201, 300, 102, 103, 104, 105, 108, 109, 110, 112, 114, 116, 117}, inner},
	)
}

func TestFromAndIntoAParallel(t *testing.T) {
	checkOrdinary(t,
		ordinary{to(3, 21), inner, []int{217, 216, 214, 212, 210, 209, 208, 205, 204, 203, 300, 121}, set(0, 2, 21)},
		ordinary{to(21, 3), set(0, 2, 21), []int{221, 300, 103, 104, 105, 108, 109, 110, 112, 114, 115}, inner&^set(16, 17) | set(15)},
		ordinary{to(8, 1), inner, []int{217, 216, 214, 212, 210, 209, 208, 205, 204, 203, 202, 300, 101}, set(0, 1)},
		ordinary{to(1, 12), set(0, 1), []int{201, 300, 102, 103, 104, 105, 108, 109, 110, 112, 114, 115}, inner&^set(16, 17) | set(15)},
	)
}

func TestWithoutTargets(t *testing.T) {
	checkOrdinary(t,
		ordinary{from(5), inner, []int{300}, inner},
		ordinary{from(2), inner, []int{300}, inner},
		ordinary{within(2), inner, []int{300}, inner},
		ordinary{from(3), inner, []int{300}, inner},
		ordinary{from(21), inner, []int{300}, inner},
	)
}

func TestSeveralTargets(t *testing.T) {
	in := []int{201, 300, 102, 103, 104, 106, 108, 109, 110, 112, 114, 116, 118, done(16)}
	checkOrdinary(t,
		ordinary{to(1, 6, 18), set(0, 1), in, inner&^set(5, 17) | set(6, 18)},
		ordinary{to(1, 18, 6), set(0, 1), in, inner&^set(5, 17) | set(6, 18)},
		ordinary{to(1, 16, 11, 6), set(0, 1), []int{201, 300, 102, 103, 104, 106, 108, 109, 111, done(9), 112, 114, 116, 117}, inner&^set(5, 10) | set(6, 11)},
		ordinary{to(21, 6, 12), set(0, 2, 21), []int{221, 300, 103, 104, 106, 108, 109, 110, 112, 114, 115}, inner&^set(5, 16, 17) | set(6, 15)},
	)
}

// The Source is left and entered again, if it isn't Internal.

func TestTheSourceAgain(t *testing.T) {
	out := []int{217, 216, 214, 212, 210, 209, 208, 205, 204, 203, 300}
	again := append(out, 103, 104, 106, 108, 109, 110, 112, 114, 115)
	checkOrdinary(t,
		ordinary{to(5, 5), inner, []int{205, 300, 105}, inner},
		ordinary{to(16, 17), inner, []int{217, 216, 300, 116, 117}, inner},
		ordinary{to(16, 16), inner, []int{217, 216, 300, 116, 117}, inner},
		ordinary{within(16, 17), inner, []int{217, 300, 117}, inner},
		ordinary{within(16, 16), inner, []int{217, 216, 300, 116, 117}, inner},
		ordinary{to(4, 6), inner, again, inner&^set(5, 16, 17) | set(6, 15)},
		ordinary{within(4, 6), inner, []int{205, 300, 106}, inner&^set(5) | set(6)},
		ordinary{within(3, 6), inner, again, inner&^set(5, 16, 17) | set(6, 15)}, // a Parallel
		ordinary{within(16, 15), inner, []int{217, 216, 300, 115}, inner&^set(16, 17) | set(15)},
	)
}

// Two transitions at once, in two regions, in each order.

func TestTwoRegions(t *testing.T) {
	one := loudly(t, nest, to(5, 6), to(17, 18), to(10, 11), from(12), within(14, 15))
	all := standing(one, inner)
	checkStep(t, one, all, []int{0, 1}, standing(one, inner&^set(5, 17)|set(6, 18)).happens(217, 205, 300, 301, 106, 118, done(16)))
	checkStep(t, one, all, []int{1, 0}, standing(one, inner&^set(5, 17)|set(6, 18)).happens(217, 205, 301, 300, 106, 118, done(16)))
	checkStep(t, one, all, []int{2, 0}, standing(one, inner&^set(5, 10)|set(6, 11)).happens(210, 205, 302, 300, 106, 111, done(9)))
	checkStep(t, one, all, []int{0, 2, 3, 4}, standing(one, inner&^set(5, 10, 16, 17)|set(6, 11, 15)).happens(217, 216, 210, 205, 300, 302, 303, 304, 106, 111, done(9), 115))
	checkStep(t, one, all, []int{3, 1}, standing(one, inner&^set(17)|set(18)).happens(217, 303, 301, 118, done(16)))
}

// P12.1: First of ordinary charts, with the first state's Entry actions ahead of
// all others.

func checkFirstOf(t *testing.T, s string, conf uint32, happened ...int) {
	t.Helper()
	one := loudly(t, s)
	checkFirst(t, one, standing(one, conf).happens(happened...))
}

func TestFirst(t *testing.T) {
	checkFirstOf(t, smallest, set(0, 1), 100, 101)
	checkFirstOf(t, nest, set(0, 1), 100, 101)
	checkFirstOf(t, "C2(A C(A A))", set(0, 2, 3), 100, 102, 103)
	checkFirstOf(t, "C(P(C(A A) C(A A)) A)", set(0, 1, 2, 3, 5, 6), 100, 101, 102, 103, 105, 106)
	checkFirstOf(t, "C(P(A C(A P(A A)) S D) A)", set(0, 1, 2, 3, 4), 100, 101, 102, 103, 104)
}

// An Initial that is deeper than a child: what it is in is entered, too, and each
// region of a Parallel on the way to it.

func TestFirstDeeper(t *testing.T) {
	checkFirstOf(t, strings.Replace(nest, "C", "C17", 1), inner, 100, 102, 103, 104, 105, 108, 109, 110, 112, 114, 116, 117)
	checkFirstOf(t, strings.Replace(nest, "C", "C21", 1), set(0, 2, 21), 100, 102, 121)
	checkFirstOf(t, "C4(A C3(A C(A A)))", set(0, 2, 4, 5), 100, 102, 104, 105)
	checkFirstOf(t, "C7(P(C(A A) C6(A A A) C(A A)))", set(0, 1, 2, 3, 5, 7, 9, 10), 100, 101, 102, 103, 105, 107, 109, 110)
	checkFirstOf(t, "C(A C3(P(C5(A A) C8(A A))))", set(0, 1), 100, 101)
	checkFirstOf(t, "C2(A C3(P(C6(A A) C9(A A))))", set(0, 2, 3, 4, 6, 7, 9), 100, 102, 103, 104, 106, 107, 109)
}

// First of one with an end in it.

func TestFirstEnds(t *testing.T) {
	one := loudly(t, "C(F A)")
	checkFirst(t, one, standing(one, set(0, 1)).happens(100, 101).as(api.Ended))
	checkFirstOf(t, "C(C(F A) A)", set(0, 1, 2), 100, 101, 102, done(1))
	checkFirstOf(t, "C(P(C(F A) C(F A)))", set(0, 1, 2, 3, 5, 6), 100, 101, 102, 103, done(2), 105, 106, done(5), done(1))
	one = loudly(t, "C3(A C(F F) A)")
	checkFirst(t, one, standing(one, set(0, 2, 3)).happens(100, 102, 103, done(2)))
}

// The variables are 0 ahead of the first state's Entry actions; each action reads
// what the one ahead of it left.

func TestFirstVariables(t *testing.T) {
	c := drawn("C(C(A A) A)")
	c.States[0].Entry = []api.Act{log("a"), assign(0, "a+2"), assign(1, "a*10")}
	c.States[1].Entry = []api.Act{log("b"), assign(1, "b+a")}
	c.States[2].Entry = []api.Act{assign(2, "a*b"), log("c")}
	one := planted(t, c)
	checkFirst(t, one, standing(one, set(0, 1, 2)).with(2, 22, 44).logs(0, 20, 44))
}

// What a First came to goes on with steps: a session from its beginning to its
// end, that takes each event of a list by hand.

func TestASession(t *testing.T) {
	c := drawn("C(A C(A A S) F)", to(1, 5), to(3, 4), to(2, 1), to(1, 6))
	c.States[1].Entry = []api.Act{assign(0, "a+1"), log("a")}
	c.Trans[1].Acts = []api.Act{raise(9), {Kind: api.Send, N: 8, M: 30, Expr: "a*2"}}
	one := planted(t, c)
	s := firstOf(one)
	checkSame(t, "first", s, standing(one, set(0, 1)).with(1, 0, 0).logs(1))
	s = s.stepped(one, 0)
	checkSame(t, "into the history", s, standing(one, set(0, 2, 3)).with(1, 0, 0))
	s = s.stepped(one, 1)
	want := standing(one, set(0, 2, 4)).with(1, 0, 0).inside(9)
	want.outs = []api.Out{{Kind: api.Send, Event: 8, Delay: 30, To: 2}}
	checkSame(t, "one on", s, want)
	s = s.stepped(one, 2)
	checkSame(t, "out", s, standing(one, set(0, 1)).with(2, 0, 0).inside(9).keeps(5, 4).logs(2))
	s = s.stepped(one, 0)
	checkSame(t, "into the history again", s, standing(one, set(0, 2, 4)).with(2, 0, 0).inside(9).keeps(5, 4))
	s = s.stepped(one, 2).stepped(one, 3)
	checkSame(t, "the end", s, standing(one, set(0, 6)).with(3, 0, 0).inside(9).keeps(5, 4).as(api.Ended))
}

// A tree that was asked once tells the same again.

func TestFirstIsFromBegin(t *testing.T) {
	for _, s := range []string{smallest, nest, "C(P(C(F A) C(F A)))", chain(), mixed(), flat(), wide()} {
		one := loudly(t, s)
		checkSame(t, "first", firstOf(one), firstOf(one))
		other, err := tree.New(one.Chart())
		if err != nil {
			t.Fatal(err)
		}
		checkSame(t, "first", firstOf(one), firstOf(other))
	}
}
