package engine_test

import (
	"testing"

	"spinet/api"
)

// broken is a Guard with an error, whatever the variables are.
const broken = "1/0==1"

// regions has three, each with one leaf, and an end:
//
//	0 C
//	  1 P
//	    2 C
//	      3 A
//	    4 C
//	      5 A
//	    6 C
//	      7 A
//	  8 F
const regions = "C(P(C(A) C(A) C(A)) F)"

// allOf is a whole set of regions.
var allOf = set(0, 1, 2, 3, 4, 5, 6, 7)

// P15.1: a mishap in a Guard: EventError comes inside, and the round goes on. What
// is inside where a session has Ended tells of it.

func TestMishapComesInside(t *testing.T) {
	one := loudly(t, "C(A F)", when(broken, on(7, 1)), on(7, 1, 2))
	checkTake(t, one, standing(one, set(0, 1)), 7, standing(one, set(0, 2)).logs(201, 301, 102).inside(api.EventError).as(api.Ended))
	one = loudly(t, "C(A F)", when(broken, on(8, 1)), on(7, 1, 2))
	checkTake(t, one, standing(one, set(0, 1)), 7, standing(one, set(0, 2)).logs(201, 301, 102).as(api.Ended))
	one = loudly(t, "C(A F)", on(7, 1, 2), when(broken, on(7, 1)))
	checkTake(t, one, standing(one, set(0, 1)), 7, standing(one, set(0, 2)).logs(201, 300, 102).as(api.Ended))
}

// Once for each mishap: of one leaf, and of a Parallel whose transitions each leaf
// looks at.

func TestEachMishap(t *testing.T) {
	one := loudly(t, "C(A F)", when(broken, on(7, 1)), when("a%b<c", on(7, 1)), when("false", on(7, 1)), when(broken, on(7, 1)), on(7, 1, 2))
	e := api.EventError
	checkTake(t, one, standing(one, set(0, 1)), 7, standing(one, set(0, 2)).logs(201, 304, 102).inside(e, e, e).as(api.Ended))
	checkTake(t, one, standing(one, set(0, 1)).with(0, 1, 0), 7, standing(one, set(0, 2)).with(0, 1, 0).logs(201, 304, 102).inside(e, e).as(api.Ended))
	one = loudly(t, regions, when(broken, on(7, 1)), on(7, 1, 8))
	checkTake(t, one, standing(one, allOf), 7, standing(one, set(0, 8)).
		logs(207, 206, 205, 204, 203, 202, 201, 301, 108).inside(e, e, e).as(api.Ended))
	one = loudly(t, regions, when(broken, on(7, 1)), when(broken, on(7, 5)), when(broken, on(7, 4)), on(7, 1, 8))
	checkTake(t, one, standing(one, allOf), 7, standing(one, set(0, 8)).
		logs(207, 206, 205, 204, 203, 202, 201, 303, 108).inside(e, e, e, e, e).as(api.Ended))
}

// EventErrors stand behind all that is inside, and ahead of what the step raises.

func TestMishapsStandAheadOfTheStep(t *testing.T) {
	c := drawn(regions, when(broken, on(7, 1)), does(on(7, 1, 8), raise(50)))
	c.States[3].Exit, c.States[1].Exit, c.States[8].Entry = raises(30), raises(10), raises(80)
	one := made(t, c)
	e := api.EventError
	checkTake(t, one, standing(one, allOf), 7, standing(one, set(0, 8)).inside(e, e, e, 30, 10, 50, 80).as(api.Ended))
	checkTake(t, one, standing(one, allOf).inside(4, 2, 3), 7, standing(one, set(0, 8)).inside(4, 2, 3, e, e, e, 30, 10, 50, 80).as(api.Ended))
}

// counter tells, in its first variable, how often EventError was taken by the
// first state's child.
func counter(source int) api.Trans {
	return does(on(api.EventError, source), assign(0, "a+1"), log("a"))
}

// A round with mishaps, but without transitions: each of them is taken as it
// settles.

func TestMishapsWithoutTransitions(t *testing.T) {
	one := quietly(t, "C(A A)", when(broken, on(7, 1, 2)), counter(1))
	s := standing(one, set(0, 1))
	checkTake(t, one, s, 7, s.with(1, 0, 0).logs(1))
	one = quietly(t, regions, when(broken, on(7, 1, 8)), counter(6))
	s = standing(one, allOf)
	checkTake(t, one, s, 7, s.with(3, 0, 0).logs(1, 2, 3))
	one = quietly(t, "C(A A)", when(broken, on(7, 1, 2)))
	s = standing(one, set(0, 1))
	checkTake(t, one, s, 7, s)
}

// Where there are both, too: what takes them is what is active behind the step.

func TestMishapsWithTransitions(t *testing.T) {
	one := quietly(t, "C(A A)", when(broken, on(7, 1)), on(7, 1, 2), does(on(api.EventError, 1), log("1")), does(on(api.EventError, 2), log("2")))
	checkTake(t, one, standing(one, set(0, 1)), 7, standing(one, set(0, 2)).logs(2))
}

// A mishap at event 0, as it settles.

func TestMishapAtEvent0(t *testing.T) {
	one := loudly(t, "C(A A A)", when("1/a==7", on(0, 1)), on(0, 1, 2), on(api.EventError, 2, 3), on(api.EventError, 1, 1))
	checkStart(t, one, standing(one, set(0, 3)).logs(100, 101, 201, 301, 102, 202, 302, 103))
	checkTake(t, one, standing(one, set(0, 1)).with(5, 0, 0), 7, standing(one, set(0, 2)).with(5, 0, 0).logs(201, 301, 102))
}

// Once what the Guard divides by isn't 0 any more, it settles.

func TestMishapsEnd(t *testing.T) {
	one := loudly(t, "C(A A)", when("1/a<1", on(0, 1, 2)), does(on(api.EventError, 1), assign(0, "a+2")))
	checkStart(t, one, standing(one, set(0, 2)).with(2, 0, 0).logs(100, 101, 301, 201, 300, 102))
}

// Guards of a round are all asked ahead of its step.

func TestGuardsGoAheadOfTheStep(t *testing.T) {
	one := loudly(t, "C(P(C(A A) C(A A)))",
		does(on(7, 3, 4), assign(0, "1")), when("a==0", on(7, 6, 7)), when("a==1", on(8, 7, 6)))
	s := standing(one, set(0, 1, 2, 3, 5, 6))
	checkTake(t, one, s, 7, standing(one, set(0, 1, 2, 4, 5, 7)).with(1, 0, 0).logs(206, 203, 300, 301, 104, 107))
}

// A mishap of an action is one of the step: it stands where it was.

func TestMishapsOfActions(t *testing.T) {
	c := drawn("C(A F)", when(broken, on(7, 1)), does(on(7, 1, 2), raise(5), log("1/a"), raise(6)))
	c.States[2].Entry = []api.Act{raise(8), assign(1, "a%b"), raise(9)}
	one := made(t, c)
	checkTake(t, one, standing(one, set(0, 1)), 7, standing(one, set(0, 2)).
		inside(api.EventError, 5, api.EventError, 8, api.EventError).as(api.Ended))
}
