package engine_test

import (
	"testing"

	"spinet/api"
)

// P15.1: transitions for event 0 go ahead of what is inside.

func TestEvent0GoesAhead(t *testing.T) {
	one := loudly(t, "C(A A A A)", does(on(7, 1, 2), raise(8)), on(0, 2, 3), on(8, 2, 1), on(8, 3, 4))
	checkTake(t, one, standing(one, set(0, 1)), 7, standing(one, set(0, 4)).logs(201, 300, 102, 202, 301, 103, 203, 303, 104))
}

// All of them, one round behind the other, and what they raise stands behind what
// was inside.

func TestEvent0GoesOn(t *testing.T) {
	one := loudly(t, "C(A A A A)", does(on(7, 1, 2), raise(8)), does(on(0, 2, 3), raise(9)), on(0, 3, 4), on(9, 4, 1), on(8, 4, 4))
	checkTake(t, one, standing(one, set(0, 1)), 7, standing(one, set(0, 1)).
		logs(201, 300, 102, 202, 301, 103, 203, 302, 104, 204, 304, 104, 204, 303, 101))
}

// What is inside is taken out from the front, one for each round.

func TestFromTheFront(t *testing.T) {
	one := loudly(t, "C(A A A A)", does(on(7, 1, 2), raises(8, 9, 8)...), on(8, 2, 3), on(9, 3, 4), on(8, 4, 1), on(9, 2, 1))
	checkTake(t, one, standing(one, set(0, 1)), 7, standing(one, set(0, 1)).
		logs(201, 300, 102, 202, 301, 103, 203, 302, 104, 204, 303, 101))
	one = loudly(t, "C(A A A A)", does(on(7, 1, 2), raises(9, 8, 8)...), on(8, 2, 3), on(9, 3, 4), on(8, 4, 1), on(8, 3, 2))
	checkTake(t, one, standing(one, set(0, 1)), 7, standing(one, set(0, 2)).
		logs(201, 300, 102, 202, 301, 103, 203, 304, 102))
}

// What a round raises stands behind the rest.

func TestBehindTheRest(t *testing.T) {
	one := loudly(t, "C(A)",
		does(on(7, 1), raises(8, 9)...), does(on(8, 1), raises(10, 11)...), does(on(9, 1), raises(12)...),
		does(on(10, 1), raises(13)...), on(11, 1), on(12, 1), on(13, 1))
	checkTake(t, one, standing(one, set(0, 1)), 7, standing(one, set(0, 1)).logs(300, 301, 302, 303, 304, 305, 306))
}

// Between each two of them there is a round for event 0.

func TestEvent0BetweenEachTwo(t *testing.T) {
	one := quietly(t, "C(A)",
		does(on(7, 1), raises(8, 8, 8)...), does(on(8, 1), assign(0, "a+1"), log("a")),
		does(when("not a==b", on(0, 1)), assign(1, "a"), log("b*100")))
	checkTake(t, one, standing(one, set(0, 1)), 7, standing(one, set(0, 1)).with(3, 3, 0).logs(1, 100, 2, 200, 3, 300))
	checkTake(t, one, standing(one, set(0, 1)).with(0, 5, 0), 7, standing(one, set(0, 1)).with(3, 3, 0).logs(0, 1, 100, 2, 200, 3, 300))
}

// Events that no transition has are taken out, too, and change nothing else.

func TestEventsThatNoTransitionHas(t *testing.T) {
	one := loudly(t, "C(A A)", does(on(7, 1), raises(10, 11, 8, 12)...), on(8, 1, 2))
	checkTake(t, one, standing(one, set(0, 1)), 7, standing(one, set(0, 2)).logs(300, 201, 301, 102))
}

// ends has a Parallel of two regions, each with a Final, in a Compound that has
// one, too:
//
//	0 C
//	  1 A
//	  2 C
//	    3 P
//	      4 C
//	        5 A
//	        6 F
//	      7 C
//	        8 A
//	        9 F
//	        10 S
//	      11 D
//	    12 F
//	  13 F
const ends = "C(A C(P(C(A F) C(A F S) D) F) F)"

// What tells that a Compound is done, and a Parallel, is taken as any event is,
// in its order.

func TestWhatIsDone(t *testing.T) {
	one := loudly(t, ends, on(7, 5, 6), on(8, 8, 9), on(done(4), 4), on(done(7), 7), on(done(3), 3, 12), on(done(2), 2, 13))
	s := standing(one, set(0, 2, 3, 4, 5, 7, 8))
	s = s.taken(one, 7)
	checkSame(t, "one", s, standing(one, set(0, 2, 3, 4, 6, 7, 8)).logs(205, 300, 106, 302))
	s = s.taken(one, 8)
	checkSame(t, "both", s, standing(one, set(0, 13)).keeps(10, 9).keeps(11, 6, 9).as(api.Ended).
		logs(208, 301, 109, 303).logs(209, 207, 206, 204, 203, 304, 112).logs(212, 202, 305, 113))
}

func TestWhatIsDoneStays(t *testing.T) {
	one := loudly(t, ends, on(7, 5, 6), on(8, 8, 9), on(done(3), 3, 12))
	s := standing(one, set(0, 2, 3, 4, 5, 7, 8)).taken(one, 7).taken(one, 8)
	checkSame(t, "no more", s, standing(one, set(0, 2, 12)).keeps(10, 9).keeps(11, 6, 9).
		logs(208, 301, 109, 209, 207, 206, 204, 203, 302, 112))
	checkTake(t, one, s, done(3), session{Run: s.Run})
}

// A session that Ends in the midst: no further round is done, and the rest stays
// inside.

func TestTheEndInTheMidst(t *testing.T) {
	one := loudly(t, "C(A A F)", does(on(7, 1), raises(8, 9, 10, 11)...), does(on(9, 1, 3), raises(12)...), on(10, 1, 2), on(0, 2, 1))
	checkTake(t, one, standing(one, set(0, 1)), 7, standing(one, set(0, 3)).logs(300, 201, 301, 103).inside(10, 11, 12).as(api.Ended))
}

func TestTheEndByEvent0(t *testing.T) {
	one := loudly(t, "C(A A F)", does(on(7, 1, 2), raises(8, 9)...), does(on(0, 2, 3), raises(12)...), on(8, 2, 1))
	checkTake(t, one, standing(one, set(0, 1)), 7, standing(one, set(0, 3)).
		logs(201, 300, 102, 202, 301, 103).inside(8, 9, 12).as(api.Ended))
}

func TestTheEndByTheEvent(t *testing.T) {
	one := loudly(t, "C(A F)", does(on(7, 1, 2), raises(8, 9)...))
	checkTake(t, one, standing(one, set(0, 1)), 7, standing(one, set(0, 2)).logs(201, 300, 102).inside(8, 9).as(api.Ended))
	checkTake(t, one, standing(one, set(0, 1)).inside(5), 7, standing(one, set(0, 2)).logs(201, 300, 102).inside(5, 8, 9).as(api.Ended))
}

// P15.1: what goes out is told in order, over several rounds, of whatever Kind.

func TestWhatGoesOutInOrder(t *testing.T) {
	send := func(n int) api.Act { return api.Act{Kind: api.Send, N: n, M: 10 * n, Expr: "a"} }
	cancel := func(n int) api.Act { return api.Act{Kind: api.Cancel, N: n} }
	c := drawn("C(A A A)",
		does(on(7, 1, 2), send(2), raise(8), cancel(3), assign(0, "7")), does(on(0, 2, 3), log("a*a"), send(5)), does(on(8, 3, 1), cancel(7), log("8")))
	c.States[1].Exit, c.States[1].Entry = []api.Act{log("1")}, []api.Act{send(10)}
	c.States[2].Exit, c.States[3].Exit = []api.Act{cancel(4)}, []api.Act{send(6)}
	one := made(t, c)
	want := standing(one, set(0, 1)).with(7, 0, 0)
	out := func(n int, to int64) api.Out { return api.Out{Kind: api.Send, Event: n, Delay: 10 * n, To: to} }
	off := func(n int64) api.Out { return api.Out{Kind: api.Cancel, To: n} }
	line := func(n int64) api.Out { return api.Out{Kind: api.Log, To: n} }
	want.outs = []api.Out{line(1), out(2, 0), off(3), off(4), line(49), out(5, 7), out(6, 7), off(7), line(8), out(10, 7)}
	checkTake(t, one, standing(one, set(0, 1)), 7, want)
}

// Histories are kept, and stood for, from round to round.

func TestHistoriesOverRounds(t *testing.T) {
	one := loudly(t, "C(A C(A A S) A)", does(on(7, 4, 1), raise(8)), on(0, 1, 6), on(8, 6, 5))
	checkTake(t, one, standing(one, set(0, 2, 4)), 7, standing(one, set(0, 2, 4)).keeps(5, 4).
		logs(204, 202, 300, 101, 201, 301, 106, 206, 302, 102, 104))
}

// Variables go on from round to round.

func TestVariablesOverRounds(t *testing.T) {
	one := quietly(t, "C(A)",
		does(on(7, 1), assign(0, "a+1"), raises(8)[0]), does(on(8, 1), assign(1, "a*10"), raises(9)[0]),
		does(on(9, 1), assign(2, "a+b"), log("c")))
	checkTake(t, one, standing(one, set(0, 1)).with(4, 0, 0), 7, standing(one, set(0, 1)).with(5, 50, 55).logs(55))
}
