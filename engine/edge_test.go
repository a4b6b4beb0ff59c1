package engine_test

import (
	"math"
	"slices"
	"strings"
	"testing"

	"spinet/api"
)

// P15.1: where no round has transitions Hist is told as it is, whatever its
// length; behind a step it is as long as there are states, or longer.

func TestHistoriesOfAnyLength(t *testing.T) {
	one := loudly(t, "C(A C(A A S) A)", on(7, 2, 1), on(8, 1, 5))
	s := standing(one, set(0, 2, 4))
	long := []uint32{6: 0, 9: 7}
	for _, hist := range [][]uint32{nil, {}, {0}, {0, 0, 0, 0, 0}, {0, 0, 0, 0, 0, 1 << 3}, long} {
		s.Hist = hist
		checkTake(t, one, s, 9, s)
		want := standing(one, set(0, 1)).logs(204, 202, 300, 101).keeps(5, 4)
		if len(hist) > 7 {
			want.Hist = slices.Concat(want.Hist, long[7:])
		}
		checkTake(t, one, s, 7, want)
	}
}

// Of a Hist that is too short the sets that aren't there are empty; where one is
// there it is taken, in one round or the next.

func TestHistoriesThatAreTaken(t *testing.T) {
	one := loudly(t, "C(A C(A A S) A)", on(7, 1, 5), does(on(8, 1, 6), raise(7)), on(7, 6, 5))
	s := standing(one, set(0, 1))
	for _, hist := range [][]uint32{nil, {0, 0, 0, 0, 0}, {0, 0, 0, 0, 0, 0}} {
		s.Hist = hist
		checkTake(t, one, s, 7, standing(one, set(0, 2, 3)).logs(201, 300, 102, 103))
		checkTake(t, one, s, 8, standing(one, set(0, 2, 3)).logs(201, 301, 106, 206, 302, 102, 103))
	}
	for _, hist := range [][]uint32{{5: 1 << 4}, {6: 0, 5: 1 << 4}} {
		s.Hist = hist
		checkTake(t, one, s, 7, standing(one, set(0, 2, 4)).keeps(5, 4).logs(201, 300, 102, 104))
		checkTake(t, one, s, 8, standing(one, set(0, 2, 4)).keeps(5, 4).logs(201, 301, 106, 206, 302, 102, 104))
	}
}

// Variables that are none, too few, or more: a Guard that asks for one that isn't
// there is a mishap, and none is added.

func TestVariablesOfAnyNumber(t *testing.T) {
	one := loudly(t, "C(A A A)", when("b==0", on(7, 1, 2)), on(api.EventError, 1, 3), when("c<2", on(0, 2, 3)), on(api.EventError, 2, 1))
	s := standing(one, set(0, 1))
	for _, env := range [][]int64{nil, {}, {0}} {
		checkTake(t, one, s.with(env...), 9, s.with(env...))
		checkTake(t, one, s.with(env...), 7, standing(one, set(0, 3)).with(env...).logs(201, 301, 103))
	}
	checkTake(t, one, s.with(0, 0), 7, standing(one, set(0, 1)).with(0, 0).logs(201, 300, 102, 202, 303, 101))
	checkTake(t, one, s.with(0, 1), 7, s.with(0, 1))
	checkTake(t, one, s.with(0, 0, 0), 7, standing(one, set(0, 3)).with(0, 0, 0).logs(201, 300, 102, 202, 302, 103))
	checkTake(t, one, s.with(0, 0, 3, 4, -5), 7, standing(one, set(0, 2)).with(0, 0, 3, 4, -5).logs(201, 300, 102))
}

// Something is inside already: the event goes ahead of it, event 0 as well, and
// what both raise stands behind it.

func TestSomethingIsInside(t *testing.T) {
	one := loudly(t, "C(A A A A)", does(on(7, 1, 2), raise(9)), does(on(0, 2, 3), raise(10)), on(8, 3, 4), on(9, 4, 1), on(10, 1, 1))
	s := standing(one, set(0, 1))
	checkTake(t, one, s.inside(8), 7, s.logs(201, 300, 102, 202, 301, 103, 203, 302, 104, 204, 303, 101, 201, 304, 101))
	checkTake(t, one, s.inside(7, 8), 5, s.logs(201, 300, 102, 202, 301, 103, 203, 302, 104, 204, 303, 101, 201, 304, 101))
	checkTake(t, one, s.inside(8, 7), 5, standing(one, set(0, 3)).logs(201, 300, 102, 202, 301, 103))
	checkTake(t, one, s.inside(10, 10, 1), 8, s.logs(201, 304, 101, 201, 304, 101))
}

// What is inside may be any number: that of event 0 is a round for event 0.

func TestAnythingIsInside(t *testing.T) {
	one := loudly(t, "C(A A)", on(7, 1, 2))
	s := standing(one, set(0, 1))
	checkTake(t, one, s.inside(0, -1, math.MinInt, math.MaxInt, 1<<32+7, done(24), 7), 9, standing(one, set(0, 2)).logs(201, 300, 102))
	one = quietly(t, "C(A)", does(when("a<2", on(0, 1)), assign(0, "a+1")), does(on(7, 1), assign(0, "0")))
	s = standing(one, set(0, 1))
	checkTake(t, one, s.inside(0, 7, 0), 9, s.with(2, 0, 0))
}

// A Conf with nothing in it has no leaves, and so has one with states above leaves
// alone: there no transition is gathered, but what is inside is taken out.

func TestNothingActive(t *testing.T) {
	one := loudly(t, nest, on(7, 2, 1), on(0, 3, 21), on(7, 5, 6))
	for _, conf := range []uint32{0, set(0), set(0, 2, 3, 4), set(7, 13, 19, 20)} {
		s := standing(one, conf)
		for _, event := range []int{7, 0, 9} {
			checkTake(t, one, s, event, s)
			checkTake(t, one, s.inside(7, 7, 0), event, s)
			checkTake(t, one, s.inside(sevens(51)...), event, s.inside(sevens(51)...).as(api.Failed))
		}
	}
}

// A leaf alone is asked with all that it is in, be that active or not.

func TestALeafAlone(t *testing.T) {
	one := loudly(t, nest, on(7, 4, 6), on(8, 5, 6))
	checkTake(t, one, standing(one, set(5)), 8, standing(one, set(6)).logs(205, 301, 106))
	checkTake(t, one, standing(one, set(5)), 7, standing(one, inner&^set(0, 2, 5, 16, 17)|set(6, 15)).logs(205, 300, 103, 104, 106, 108, 109, 110, 112, 114, 115))
}

// Bits of states that aren't there stay, and change nothing else.

func TestBitsOfStatesThatAreNotThere(t *testing.T) {
	one := loudly(t, "C(A A A)", does(on(7, 1, 2), raise(8)), on(0, 2, 3), on(8, 3, 1))
	for _, bits := range []uint32{1 << 4, 1 << 23, 1 << 24, 1 << 31, full &^ 15} {
		s := standing(one, set(0, 1)|bits)
		checkTake(t, one, s, 7, s.logs(201, 300, 102, 202, 301, 103, 203, 302, 101))
		checkTake(t, one, s, 9, s)
		checkTake(t, one, standing(one, bits), 7, standing(one, bits))
	}
}

// All bits: each leaf is asked.

func TestAllBits(t *testing.T) {
	one := loudly(t, "C(A A F)", on(7, 1), on(7, 2), on(8, 2, 1))
	checkTake(t, one, standing(one, full), 7, standing(one, full).logs(300, 301))
	checkTake(t, one, standing(one, full), 8, standing(one, full&^set(2, 3)).logs(203, 202, 201, 302, 101))
}

// greatest is a chart that has as many states, transitions, variables and actions
// as it may have: half of the transitions are for event 7, the others for event 0,
// with Guards.
func greatest(s string) api.Chart {
	c := drawn(s)
	c.Vars = api.MaxVars
	acts := []api.Act{assign(0, "a+1"), log("a"), {Kind: api.Send, N: api.MaxEvent, M: api.MaxDelay, Expr: "h+a"}, {Kind: api.Cancel, N: api.MaxEvent}, assign(1, "b+1")}
	for k := range c.States {
		if !isHistory(c.States[k].Kind) {
			c.States[k].Entry, c.States[k].Exit = slices.Clone(acts), slices.Clone(acts)
		}
	}
	for i := range api.MaxTrans {
		one := when("a<200", does(on(7, 1, 1), acts...))
		if i%2 == 1 {
			one = when("g==0 and not 0<h or c%1==d and a<0", does(on(0, 1), assign(6, "g+1"), raise(8), log("g"), assign(2, "c+0"), raise(api.MaxEvent)))
		}
		c.Trans = append(c.Trans, one)
	}
	return c
}

func TestTheGreatestChart(t *testing.T) {
	for _, s := range []string{chain(), mixed(), flat(), wide()} {
		c := greatest(s)
		one := made(t, c)
		run := checkStartByWalk(t, one, reading{c})
		n := int64(len(members(run.Conf)))
		if run.Status != api.Going || len(run.Inner) != 0 || run.Env[0] != n || run.Env[6] != 1 || len(run.outs) != 3*int(n)+1 {
			t.Errorf("a start of the greatest chart told %v", run)
		}
		next := checkTakeByWalk(t, one, reading{c}, run.Run, 7)
		lists := 2*(n-1) + 1
		if next.Conf != run.Conf || next.Status != api.Going || len(next.Inner) != 0 || next.Env[0] != n+lists || next.Env[6] != 1 || len(next.outs) != 3*int(lists) {
			t.Errorf("event 7 of the greatest chart told %v", next)
		}
		for _, event := range events() {
			checkTakeByWalk(t, one, reading{c}, next.Run, event)
			checkTakeByWalk(t, one, reading{c}, session{Run: next.Run}.with(make([]int64, 8)...).Run, event)
		}
	}
}

// As many mishaps as there may be: of 40 transitions 22 leaves look at each.

func TestTheMostMishaps(t *testing.T) {
	c := drawn(wide())
	for range api.MaxTrans {
		c.Trans = append(c.Trans, when(broken, on(7, 1)))
	}
	one := made(t, c)
	checkTake(t, one, standing(one, 1<<24-1), 7, standing(one, 1<<24-1).inside(errors(22*40)...).as(api.Failed))
	c.Trans[39] = on(7, 1)
	one = made(t, c)
	checkTake(t, one, standing(one, 1<<24-1), 7, standing(one, 1<<24-1).inside(errors(22*39)...).as(api.Failed))
}

// Texts that only just may be: of 200 bytes, and of 100 tokens behind each other.

func TestTheLongestTexts(t *testing.T) {
	long := "a" + strings.Repeat("+a", 49) + strings.Repeat(" ", 101)
	guard := "b<" + strings.Repeat("-", 97) + "a" + strings.Repeat(" ", 100)
	if len(long) != api.MaxText || len(guard) != api.MaxText {
		t.Fatalf("%d and %d bytes", len(long), len(guard))
	}
	one := quietly(t, "C(A A)", when(guard, does(on(7, 1, 2), assign(2, long), log(long))))
	s := standing(one, set(0, 1))
	checkTake(t, one, s.with(3, -4, 0), 7, s.at(0, 2).with(3, -4, 150).logs(150))
	checkTake(t, one, s.with(3, -3, 0), 7, s.with(3, -3, 0))
}

// Transitions of the last number, and the last state, are taken as others are.

func TestTheLastOnes(t *testing.T) {
	c := drawn(flat())
	for range api.MaxTrans - 2 {
		c.Trans = append(c.Trans, on(7, 1, 2))
	}
	c.Trans = append(c.Trans, on(8, 1, 22), on(0, 22, 23))
	one := made(t, c)
	checkTake(t, one, standing(one, set(0, 1)), 8, standing(one, set(0, 23)).as(api.Ended))
}

// Without variables, actions and transitions a chart settles at once.

func TestABareChart(t *testing.T) {
	c := drawn(smallest)
	c.Vars = 0
	one := made(t, c)
	checkStart(t, one, standing(one, set(0, 1)))
	for _, event := range events() {
		checkTake(t, one, standing(one, set(0, 1)), event, standing(one, set(0, 1)))
	}
}
