package engine_test

import (
	"math"
	"testing"

	"spinet/api"
)

// P15.1: where Status isn't Going, the session is told as it is, whatever the
// event, and nothing goes out.

func TestTakeWhereNothingIsGoing(t *testing.T) {
	one := loudly(t, "C(A A)", on(7, 1, 2), on(0, 1, 2), on(done(0), 1, 2))
	for _, status := range []int{api.Ended, api.Failed, 0, 4, 5, -1, 77, math.MinInt, math.MaxInt} {
		for _, s := range []session{
			standing(one, set(0, 1)),
			standing(one, set(0, 1)).with(4, 5, 6).inside(7, 7, api.EventError).keeps(1, 2),
			standing(one, 0).with().histories(),
			standing(one, full).with(1).histories(1, 2, 3, 4, 5, 6).inside(make([]int, 60)...),
		} {
			for _, event := range events() {
				checkTake(t, one, s.as(status), event, s.as(status))
			}
		}
	}
}

// Ordinary events: one that a transition has.

func TestTakeOne(t *testing.T) {
	one := loudly(t, nest, on(7, 5, 6), on(8, 17, 18), on(9, 2, 1), on(10, 3))
	s := standing(one, inner)
	checkTake(t, one, s, 7, standing(one, inner&^set(5)|set(6)).logs(205, 300, 106))
	checkTake(t, one, s, 8, standing(one, inner&^set(17)|set(18)).logs(217, 301, 118))
	checkTake(t, one, s, 10, s.logs(303))
	checkTake(t, one, standing(one, inner&^set(5)|set(6)), 9, standing(one, set(0, 1)).
		keeps(7, 6).keeps(13, 10, 12).keeps(19, 17).keeps(20, 3).
		logs(217, 216, 214, 212, 210, 209, 208, 206, 204, 203, 202, 302, 101))
}

// One that two have, in two regions: they are taken at once.

func TestTakeTwo(t *testing.T) {
	one := loudly(t, nest, on(7, 10, 11), on(7, 5, 6), on(8, 16), on(8, 12), on(8, 5, 6))
	s := standing(one, inner)
	checkTake(t, one, s, 7, standing(one, inner&^set(5, 10)|set(6, 11)).logs(210, 205, 301, 300, 106, 111))
	checkTake(t, one, s, 8, standing(one, inner&^set(5)|set(6)).logs(205, 304, 303, 302, 106))
}

// One that none has, whatever it is.

func TestTakeNone(t *testing.T) {
	one := loudly(t, nest, on(5, 5, 6), on(6, 1, 2))
	for _, event := range events() {
		checkTake(t, one, standing(one, inner), event, standing(one, inner))
	}
	checkTake(t, one, standing(one, inner), 6, standing(one, inner))
	checkTake(t, one, standing(one, set(0, 1)), 5, standing(one, set(0, 1)))
}

// Each event is another one.

func TestTakeByNumber(t *testing.T) {
	numbers := []int{1, 7, 999, api.MaxEvent, api.EventError, api.EventComm, api.EventDone, done(1), done(2)}
	var trans []api.Trans
	for _, n := range numbers {
		trans = append(trans, on(n, 1, 2))
	}
	one := loudly(t, "C(A A)", trans...)
	for i, n := range numbers {
		checkTake(t, one, standing(one, set(0, 1)), n, standing(one, set(0, 2)).logs(201, int64(300+i), 102))
	}
	for _, n := range []int{0, 2, 8, 998, 1003, done(3), -1, -7, math.MinInt, math.MaxInt} {
		checkTake(t, one, standing(one, set(0, 1)), n, standing(one, set(0, 1)))
	}
}

// Event 0 itself: its transitions are taken, and it settles, as it does behind
// any other event.

func TestTakeEvent0(t *testing.T) {
	one := loudly(t, "C(A A A)", on(0, 1, 2), on(0, 2, 3), on(7, 3, 1))
	checkTake(t, one, standing(one, set(0, 1)), 0, standing(one, set(0, 3)).logs(201, 300, 102, 202, 301, 103))
	checkTake(t, one, standing(one, set(0, 2)), 0, standing(one, set(0, 3)).logs(202, 301, 103))
	checkTake(t, one, standing(one, set(0, 3)), 0, standing(one, set(0, 3)))
	checkTake(t, one, standing(one, set(0, 3)), 7, standing(one, set(0, 3)).logs(203, 302, 101, 201, 300, 102, 202, 301, 103))
	checkTake(t, one, standing(one, set(0, 1)), 9, standing(one, set(0, 3)).logs(201, 300, 102, 202, 301, 103))
}

// The event goes ahead of event 0, where a session isn't settled.

func TestTheEventGoesAhead(t *testing.T) {
	one := loudly(t, "C(A A A)", on(0, 1, 2), on(7, 1, 3))
	checkTake(t, one, standing(one, set(0, 1)), 7, standing(one, set(0, 3)).logs(201, 301, 103))
	checkTake(t, one, standing(one, set(0, 1)), 8, standing(one, set(0, 2)).logs(201, 300, 102))
}

// Of what is gathered just what is kept is taken: of two that clash the one with
// the inner Source, or else the first one.

func TestTakeWhatIsKept(t *testing.T) {
	one := loudly(t, nest, on(7, 2, 1), on(7, 17, 18), on(8, 5, 21), on(8, 17, 1), on(8, 12))
	s := standing(one, inner)
	checkTake(t, one, s, 7, standing(one, inner&^set(17)|set(18)).logs(217, 301, 118))
	checkTake(t, one, s, 8, standing(one, set(0, 2, 21)).keeps(7, 5).keeps(13, 10, 12).keeps(19, 17).
		logs(217, 216, 214, 212, 210, 209, 208, 205, 204, 203, 302, 304, 121))
}

// Guards read the variables as they are.

func TestTakeWithGuards(t *testing.T) {
	one := loudly(t, "C(A A A)", when("a<b", on(7, 1, 2)), when("not a<b", on(7, 1, 3)), when("c==5", on(0, 3, 2)))
	s := standing(one, set(0, 1))
	checkTake(t, one, s.with(1, 2, 3), 7, standing(one, set(0, 2)).with(1, 2, 3).logs(201, 300, 102))
	checkTake(t, one, s.with(2, 2, 3), 7, standing(one, set(0, 3)).with(2, 2, 3).logs(201, 301, 103))
	checkTake(t, one, s.with(2, 2, 5), 7, standing(one, set(0, 2)).with(2, 2, 5).logs(201, 301, 103, 203, 302, 102))
}

// A session from its start to its end, event by event: a door that counts, and
// that a history opens as it stood.

func TestASession(t *testing.T) {
	c := drawn("C(A C(A A S) F)",
		on(7, 1, 5), on(7, 3, 4), on(8, 2, 1), when("a==3", on(0, 1, 6)), does(on(9, 2), raise(8), log("9")))
	c.States[1].Entry = []api.Act{assign(0, "a+1"), log("a")}
	c.States[4].Exit = []api.Act{{Kind: api.Send, N: 8, M: 30, Expr: "a*2"}}
	one := made(t, c)
	s := started(one)
	checkSame(t, "start", s, standing(one, set(0, 1)).with(1, 0, 0).logs(1))
	s = s.taken(one, 7)
	checkSame(t, "into the history", s, standing(one, set(0, 2, 3)).with(1, 0, 0))
	s = s.taken(one, 7)
	checkSame(t, "one on", s, standing(one, set(0, 2, 4)).with(1, 0, 0))
	s = s.taken(one, 7)
	checkSame(t, "no more", s, standing(one, set(0, 2, 4)).with(1, 0, 0))
	s = s.taken(one, 9)
	want := standing(one, set(0, 1)).with(2, 0, 0).keeps(5, 4)
	want.outs = []api.Out{{Kind: api.Log, To: 9}, {Kind: api.Send, Event: 8, Delay: 30, To: 2}, {Kind: api.Log, To: 2}}
	checkSame(t, "out, by what was raised", s, want)
	s = s.taken(one, 7)
	checkSame(t, "into the history again", s, standing(one, set(0, 2, 4)).with(2, 0, 0).keeps(5, 4))
	s = s.taken(one, 8)
	want = standing(one, set(0, 6)).with(3, 0, 0).keeps(5, 4).as(api.Ended)
	want.outs = []api.Out{{Kind: api.Send, Event: 8, Delay: 30, To: 4}, {Kind: api.Log, To: 3}}
	checkSame(t, "the end", s, want)
	want.outs = nil
	for _, event := range events() {
		s = s.taken(one, event)
		checkSame(t, "behind the end", s, want)
	}
}
