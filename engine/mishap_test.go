package engine_test

import (
	"testing"

	"spinet/api"
)

// P15.1: a Guard that can't be told, at event 0: each round for that has its mishap
// anew, so that it never settles, and the fuel is used up; what else is for
// EventError is taken as long as there is some.

func TestAGuardThatCanNotBeTold(t *testing.T) {
	one := quietly(t, "C(A A)", when(broken, on(0, 1, 2)), does(on(api.EventError, 1), assign(0, "a+1")))
	s := standing(one, set(0, 1))
	checkStart(t, one, s.with(20, 0, 0).as(api.Failed))
	checkTake(t, one, s, 9, s.with(19, 0, 0).as(api.Failed))
	checkTake(t, one, s, 0, s.with(19, 0, 0).inside(api.EventError).as(api.Failed))
	two := quietly(t, "C(A A)", when(broken, on(0, 1, 2)), when("a/b<c", on(0, 1, 2)), on(0, 2, 1))
	s = standing(two, set(0, 1))
	checkStart(t, two, s.inside(errors(20)...).as(api.Failed))
	checkTake(t, two, s, 9, s.inside(errors(20)...).as(api.Failed))
	checkTake(t, two, s, 0, s.inside(errors(22)...).as(api.Failed))
	checkTake(t, two, s.with(0, 1, 0), 9, s.with(0, 1, 0).as(api.Failed))
}

// Until a transition for EventError changes what it asks for.

func TestAGuardThatCanBeToldLater(t *testing.T) {
	one := loudly(t, "C(A A)", when("6/a==2", on(0, 1, 2)), does(on(api.EventError, 1), assign(0, "a+3")))
	checkStart(t, one, standing(one, set(0, 2)).with(3, 0, 0).logs(100, 101, 301, 201, 300, 102))
	checkTake(t, one, standing(one, set(0, 1)), 9, standing(one, set(0, 2)).with(3, 0, 0).logs(301, 201, 300, 102))
	checkTake(t, one, standing(one, set(0, 1)).with(3, 0, 0), 9, standing(one, set(0, 2)).with(3, 0, 0).logs(201, 300, 102))
}

// One that errs at EventError: each that is taken out brings one in, or more, until
// the fuel is used up, or more is inside than may be.

func TestAGuardThatErrsAtEventError(t *testing.T) {
	for _, row := range []struct{ mishaps, taken, started int }{{1, 0, 1}, {2, 19, 21}, {3, 38, 41}, {4, 52, 52}, {5, 53, 53}} {
		trans := []api.Trans{when(broken, on(7, 1))}
		for range row.mishaps {
			trans = append(trans, when(broken, on(api.EventError, 1, 2)))
		}
		one := quietly(t, "C(A A)", trans...)
		s := standing(one, set(0, 1))
		checkTake(t, one, s, 7, s.inside(errors(row.taken)...).as(api.Failed))
		checkTake(t, one, s, 8, s)
		c := one.Chart()
		c.States[1].Entry = []api.Act{log("1/0")}
		checkStart(t, made(t, c), s.inside(errors(row.started)...).as(api.Failed))
	}
}

// Beside one that is ready: the mishap comes inside, and that one is taken.

func TestAGuardThatErrsBesideAnother(t *testing.T) {
	one := quietly(t, "C(A A A)", when(broken, on(7, 1)), on(7, 1, 2), when(broken, on(api.EventError, 2, 1)), does(on(api.EventError, 2, 3), log("a")),
		does(on(api.EventError, 3), assign(0, "a+1"), log("a")))
	checkTake(t, one, standing(one, set(0, 1)), 7, standing(one, set(0, 3)).with(1, 0, 0).logs(0, 1))
}

// EventError from outside is an event as any other is.

func TestEventErrorFromOutside(t *testing.T) {
	one := loudly(t, "C(A A)", on(api.EventError, 1, 2), when(broken, on(api.EventError, 2, 1)))
	checkTake(t, one, standing(one, set(0, 1)), api.EventError, standing(one, set(0, 2)).logs(201, 300, 102))
	checkTake(t, one, standing(one, set(0, 2)), api.EventError, standing(one, set(0, 2)).as(api.Failed))
}

// Guards that don't hold are no mishaps, and an empty one holds.

func TestGuardsThatDoNotHold(t *testing.T) {
	one := loudly(t, "C(A A)", when("false", on(7, 1)), when("a<0", on(7, 1)), on(7, 1, 2), does(on(api.EventError, 2), log("9")))
	checkTake(t, one, standing(one, set(0, 1)), 7, standing(one, set(0, 2)).logs(201, 302, 102))
	checkTake(t, one, standing(one, set(0, 1)).with(-1, 0, 0), 7, standing(one, set(0, 1)).with(-1, 0, 0).logs(301))
}
