package micro_test

import (
	"strconv"
	"testing"

	"spinet/api"
)

// P12.1: the three parts in their order, and in each what is done in its order:
// Exit actions from the greatest number down, Acts in the order of the list,
// Entry actions from the least number up.

func TestTheThreeParts(t *testing.T) {
	one := loudly(t, nest, to(3, 21), to(2, 3), to(5, 6), to(10, 11), to(17, 18), from(12))
	s := standing(one, inner)
	checkStep(t, one, s, []int{2, 3, 4, 5}, standing(one, inner&^set(5, 10, 17)|set(6, 11, 18)).
		happens(217, 210, 205).happens(302, 303, 304, 305).happens(106, 111, done(9), 118, done(16)))
	checkStep(t, one, s, []int{5, 4, 3, 2}, standing(one, inner&^set(5, 10, 17)|set(6, 11, 18)).
		happens(217, 210, 205).happens(305, 304, 303, 302).happens(106, 111, done(9), 118, done(16)))
	checkStep(t, one, s, []int{3, 5, 2}, standing(one, inner&^set(5, 10)|set(6, 11)).
		happens(210, 205).happens(303, 305, 302).happens(106, 111, done(9)))
}

// numbered gives each list of actions one that puts its digit behind a variable:
// in the end that tells in which order all were done, if each one reads what the
// one ahead of it left.
func numbered(c api.Chart, digits map[int]int) api.Chart {
	for n, digit := range digits {
		l := []api.Act{assign(0, "a*10+"+strconv.Itoa(digit)), log("a")}
		switch n / 100 {
		case 1:
			c.States[n%100].Entry = l
		case 2:
			c.States[n%100].Exit = l
		case 3:
			c.Trans[n%100].Acts = l
		}
	}
	return c
}

func TestVariablesGoOn(t *testing.T) {
	c := numbered(drawn("C(A C(P(C(A A) C(A A))))", to(5, 6), to(8, 9), to(1, 6, 9)),
		map[int]int{208: 1, 205: 2, 300: 3, 301: 4, 106: 5, 109: 6, 102: 7, 103: 8, 104: 9})
	one := planted(t, c)
	two := standing(one, set(0, 2, 3, 4, 5, 7, 8)).with(0, 5, 6)
	both := set(0, 2, 3, 4, 6, 7, 9)
	checkStep(t, one, two, []int{0, 1}, standing(one, both).with(123456, 5, 6).logs(1, 12, 123, 1234, 12345, 123456))
	checkStep(t, one, two, []int{1, 0}, standing(one, both).with(124356, 5, 6).logs(1, 12, 124, 1243, 12435, 124356))
	checkStep(t, one, standing(one, set(0, 1)).with(0, 0, 1), []int{2}, standing(one, both).with(78956, 0, 1).logs(7, 78, 789, 7895, 78956))
}

// What an Exit action leaves in a variable an Act reads, and what that leaves an
// Entry action; of a Source that is left and entered again, too.

func TestExitActEntry(t *testing.T) {
	c := drawn("C(A A)", to(1, 2), to(1, 1))
	c.States[1].Exit = []api.Act{assign(1, "a+1"), log("b")}
	c.States[1].Entry = []api.Act{log("b*b"), assign(0, "b*b")}
	c.States[2].Entry = []api.Act{assign(2, "b*b"), log("a+b+c")}
	for i := range c.Trans {
		c.Trans[i].Acts = []api.Act{log("b"), assign(1, "b*2")}
	}
	one := planted(t, c)
	s := standing(one, set(0, 1)).with(4, 0, 0)
	checkStep(t, one, s, []int{0}, standing(one, set(0, 2)).with(4, 10, 100).logs(5, 5, 114))
	checkStep(t, one, s, []int{1}, standing(one, set(0, 1)).with(100, 10, 0).logs(5, 5, 100))
}

// Of a list of actions each is done in its order; what goes out of all of them
// stands in one row, whatever Kind it is of.

func TestWhatGoesOutInARow(t *testing.T) {
	c := drawn("C(A A)", to(1, 2))
	c.States[1].Exit = []api.Act{log("1"), {Kind: api.Send, N: 5, M: 10, Expr: "2"}, {Kind: api.Cancel, N: 3}}
	c.Trans[0].Acts = []api.Act{{Kind: api.Cancel, N: 4}, raise(6), log("5")}
	c.States[2].Entry = []api.Act{raise(7), {Kind: api.Send, N: 8, Expr: "6"}, log("7")}
	one := planted(t, c)
	want := standing(one, set(0, 2)).inside(6, 7)
	want.outs = []api.Out{
		{Kind: api.Log, To: 1}, {Kind: api.Send, Event: 5, Delay: 10, To: 2}, {Kind: api.Cancel, To: 3},
		{Kind: api.Cancel, To: 4}, {Kind: api.Log, To: 5},
		{Kind: api.Send, Event: 8, To: 6}, {Kind: api.Log, To: 7},
	}
	checkStep(t, one, standing(one, set(0, 1)), []int{0}, want)
}

// What came inside before stays ahead of all that comes inside now.

func TestInsideStaysAhead(t *testing.T) {
	one := loudly(t, nest, to(17, 18), to(1, 22), from(5))
	for _, before := range [][]int{{}, {1}, {7, 7, 7}, {api.EventError, api.EventDone, 0, -5, 1 << 40}, make([]int, 100)} {
		s := standing(one, inner).inside(before...)
		checkStep(t, one, s, []int{0}, standing(one, inner&^set(17)|set(18)).inside(before...).happens(217, 300, 118, done(16)))
		checkStep(t, one, s, []int{2}, standing(one, inner).inside(before...).happens(302))
		checkStep(t, one, s, nil, standing(one, inner).inside(before...))
		s = standing(one, set(0, 1)).inside(before...)
		checkStep(t, one, s, []int{1}, standing(one, set(0, 22)).inside(before...).happens(201, 301, 122).as(api.Ended))
	}
}

// All that is left is left ahead of the first Act, and all that is entered is
// entered behind the last one, with reaches one in the other's, too.

func TestReachesInEachOther(t *testing.T) {
	one := loudly(t, nest, to(5, 6), to(2, 21), to(16, 15))
	checkStep(t, one, standing(one, inner), []int{0, 2}, standing(one, inner&^set(5, 16, 17)|set(6, 15)).
		happens(217, 216, 205, 300, 302, 106, 115))
	want := standing(one, set(0, 2, 6, 21)).keeps(7, 5).keeps(13, 10, 12).keeps(19, 17).keeps(20, 3).
		happens(217, 216, 214, 212, 210, 209, 208, 205, 204, 203, 202, 301, 300, 102, 106, 121)
	checkStep(t, one, standing(one, inner), []int{1, 0}, want)
}
