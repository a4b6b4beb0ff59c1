package micro_test

import (
	"slices"
	"testing"

	"spinet/api"
)

// mishaps are actions that can't be done with three variables that are 0.
func mishaps() []api.Act {
	return []api.Act{log("1/0"), log("9%0"), log("a/b"), assign(0, "1/0"), assign(2, "a%b"), {Kind: api.Send, N: 7, M: 5, Expr: "a/b"}}
}

// broken is a list of actions with a mishap in its middle.
func broken(n int, mishap api.Act) []api.Act {
	return append(noise(n), mishap, log("999"), assign(1, "999"))
}

// steep is two Compounds, each with one in it that has one leaf: 0 to 6.
const steep = "C(C(C(A)) C(C(A)))"

// all that is done where steep goes from its first Compound to its second one by
// a transition, behind another one without Targets.
var all = []int{203, 202, 201, 301, 300, 104, 105, 106}

// steepWith is steep with mishaps in these lists of actions.
func steepWith(mishap api.Act, in ...int) api.Chart {
	c := loud(drawn(steep, to(1, 4), from(3)))
	for _, n := range in {
		switch k := n % 100; n / 100 {
		case 1:
			c.States[k].Entry = broken(n, mishap)
		case 2:
			c.States[k].Exit = broken(n, mishap)
		case 3:
			c.Trans[k].Acts = broken(n, mishap)
		}
	}
	return c
}

// P12.1: a mishap in the Exit actions of a state, in a transition's Acts, and in a
// state's Entry actions: EventError comes inside where it was, no further action
// of that list is done, and the step goes on.

func checkMishaps(t *testing.T, mishap api.Act, in ...int) {
	t.Helper()
	var happened []int
	for _, n := range all {
		happened = append(happened, n)
		if slices.Contains(in, n) {
			happened = append(happened, api.EventError)
		}
	}
	one := planted(t, steepWith(mishap, in...))
	checkStep(t, one, standing(one, set(0, 1, 2, 3)), []int{1, 0}, standing(one, set(0, 4, 5, 6)).happens(happened...))
}

func TestMishap(t *testing.T) {
	for _, mishap := range mishaps() {
		checkMishaps(t, mishap)
		for _, n := range all {
			checkMishaps(t, mishap, n)
		}
		checkMishaps(t, mishap, 203, 300, 104)
		checkMishaps(t, mishap, 202, 201, 106)
		checkMishaps(t, mishap, all...)
	}
}

// What was done ahead of the mishap stays, and is read by what is done behind it.

func TestMishapKeepsWhatWasDone(t *testing.T) {
	c := drawn("C(A A)", to(1, 2))
	c.States[1].Exit = []api.Act{assign(0, "5"), log("a"), assign(1, "a/b"), assign(0, "6")}
	c.Trans[0].Acts = []api.Act{assign(1, "a*10"), raise(9), log("1/0"), assign(1, "7")}
	c.States[2].Entry = []api.Act{log("a+b"), assign(2, "a+b"), log("1/0"), assign(2, "8")}
	one := planted(t, c)
	checkStep(t, one, standing(one, set(0, 1)), []int{0}, standing(one, set(0, 2)).with(5, 50, 55).
		inside(api.EventError, 9, api.EventError, api.EventError).logs(5, 55))
}

// A Final whose Entry actions have a mishap is as done as any other one: EventDone
// stands behind EventError.

func TestMishapInAFinal(t *testing.T) {
	c := drawn(ends, to(5, 6), to(1, 13))
	c.States[6].Entry = []api.Act{raise(61), log("1/0"), raise(62)}
	c.States[13].Entry = []api.Act{log("1/0"), raise(62)}
	one := planted(t, c)
	checkStep(t, one, standing(one, set(0, 2, 3, 4, 5, 7, 9)), []int{0}, standing(one, set(0, 2, 3, 4, 6, 7, 9)).
		inside(61, api.EventError, done(4), done(3)))
	checkStep(t, one, standing(one, set(0, 1)), []int{1}, standing(one, set(0, 13)).inside(api.EventError).as(api.Ended))
}

// A mishap in the Entry actions of the first state, and of those in it.

func TestMishapInFirst(t *testing.T) {
	c := loud(drawn(steep))
	c.States[0].Entry = broken(100, log("1/0"))
	one := planted(t, c)
	checkFirst(t, one, standing(one, set(0, 1, 2, 3)).happens(100, api.EventError, 101, 102, 103))
	c.States[2].Entry = broken(102, assign(0, "a/b"))
	one = planted(t, c)
	checkFirst(t, one, standing(one, set(0, 1, 2, 3)).happens(100, api.EventError, 101, 102, api.EventError, 103))
}

// What is recorded hangs on no mishap.

func TestMishapAndHistories(t *testing.T) {
	c := loud(drawn(past, to(2, 1)))
	c.States[2].Exit, c.States[4].Exit = broken(202, log("1/0")), broken(204, log("1/0"))
	one := planted(t, c)
	checkStep(t, one, standing(one, set(0, 2, 4, 5)), []int{0}, standing(one, set(0, 1)).keeps(7, 4).keeps(8, 5).
		happens(205, 204, api.EventError, 202, api.EventError, 300, 101))
}
