package engine_test

import (
	"slices"
	"strings"
	"testing"

	"spinet/api"
)

// counts has a transition for event 0 that counts the first variable up to the
// second one, and one for event 7 that says so.
func counts() api.Chart {
	return drawn("C(A)", does(when("a<b", on(0, 1)), assign(0, "a+1"), log("a")), does(on(7, 1), log("7")))
}

// upTo are the numbers from a to b.
func upTo(a, b int64) []int64 {
	var l []int64
	for n := a; n <= b; n++ {
		l = append(l, n)
	}
	return l
}

// P15.1: there is fuel for 40 rounds, and the last one, that has no transitions,
// takes of it, too: a Start that is just settled, and others that just aren't.

func TestFuelOfStart(t *testing.T) {
	for _, row := range []struct {
		limit  string
		rounds int64
		status int
	}{{"0", 0, api.Going}, {"1", 1, api.Going}, {"38", 38, api.Going}, {"39", 39, api.Going}, {"40", 40, api.Failed}, {"41", 40, api.Failed}, {"1000", 40, api.Failed}} {
		c := counts()
		c.States[0].Entry = []api.Act{assign(1, row.limit)}
		one := made(t, c)
		got := started(one)
		checkSame(t, "up to "+row.limit, got, standing(one, set(0, 1)).with(row.rounds, got.Env[1], 0).logs(upTo(1, row.rounds)...).as(row.status))
	}
}

// The round for the event itself takes of the same fuel, whether it has
// transitions or not.

func TestFuelOfTake(t *testing.T) {
	one := made(t, counts())
	for _, row := range []struct {
		limit, rounds int64
		status        int
	}{{0, 0, api.Going}, {1, 1, api.Going}, {37, 37, api.Going}, {38, 38, api.Going}, {39, 39, api.Failed}, {40, 39, api.Failed}, {1000, 39, api.Failed}} {
		s := standing(one, set(0, 1)).with(0, row.limit, 0)
		want := standing(one, set(0, 1)).with(row.rounds, row.limit, 0).as(row.status)
		checkTake(t, one, s, 9, want.logs(upTo(1, row.rounds)...))
		checkTake(t, one, s, 7, want.logs(7).logs(upTo(1, row.rounds)...))
	}
}

func TestFuelOfTakeOfEvent0(t *testing.T) {
	one := made(t, counts())
	for _, row := range []struct {
		limit, rounds int64
		status        int
	}{{0, 0, api.Going}, {1, 1, api.Going}, {38, 38, api.Going}, {39, 39, api.Going}, {40, 40, api.Failed}, {1000, 40, api.Failed}} {
		s := standing(one, set(0, 1)).with(0, row.limit, 0)
		checkTake(t, one, s, 0, s.with(row.rounds, row.limit, 0).logs(upTo(1, row.rounds)...).as(row.status))
	}
}

// A Take of event 0 that has no transitions has a round of its own ahead of the
// first one that settles: where both have a mishap, there are two.

func TestTheOwnRoundOfEvent0(t *testing.T) {
	one := loudly(t, "C(A A)", when(broken, on(0, 1)), on(api.EventError, 1, 2))
	s, want := standing(one, set(0, 1)), standing(one, set(0, 2)).logs(201, 301, 102)
	checkTake(t, one, s, 9, want)
	checkTake(t, one, s, 0, want)
	one = loudly(t, "C(A A F)", when(broken, on(0, 1)), on(api.EventError, 1, 2), on(api.EventError, 2, 3))
	checkTake(t, one, standing(one, set(0, 1)), 9, standing(one, set(0, 2)).logs(201, 301, 102))
	checkTake(t, one, standing(one, set(0, 1)), 0, standing(one, set(0, 3)).logs(201, 301, 102, 202, 302, 103).as(api.Ended))
}

// A chart that would never settle, by event 0.

func TestNeverSettlesByEvent0(t *testing.T) {
	one := quietly(t, "C(A A)", does(on(0, 1, 2), assign(0, "a+1")), does(on(0, 2, 1), assign(0, "a+1")))
	checkStart(t, one, standing(one, set(0, 1)).with(40, 0, 0).as(api.Failed))
	checkTake(t, one, standing(one, set(0, 1)), 9, standing(one, set(0, 2)).with(39, 0, 0).as(api.Failed))
	checkTake(t, one, standing(one, set(0, 1)), 0, standing(one, set(0, 1)).with(40, 0, 0).as(api.Failed))
	checkTake(t, one, standing(one, set(0, 1)).inside(5, 6), 9, standing(one, set(0, 2)).with(39, 0, 0).inside(5, 6).as(api.Failed))
}

// By events that it raises: each takes a round for event 0, too. Where the round
// for which there is no fuel is one for event 0, what is inside stays there; where
// it is one for an event that is inside, that was taken out.

func TestNeverSettlesByWhatItRaises(t *testing.T) {
	c := drawn("C(A)", does(on(7, 1), assign(0, "a+1"), raise(7)), does(on(8, 1), raise(9)), does(on(9, 1), assign(0, "a+1"), raise(8), raise(6)))
	one := made(t, c)
	s := standing(one, set(0, 1))
	checkTake(t, one, s, 7, s.with(20, 0, 0).as(api.Failed))
	checkTake(t, one, s.inside(7), 5, s.with(19, 0, 0).as(api.Failed))
	checkTake(t, one, s, 8, s.with(7, 0, 0).inside(6).as(api.Failed))
	c.States[0].Entry = raises(7)
	one = made(t, c)
	checkStart(t, one, s.with(20, 0, 0).inside(7).as(api.Failed))
}

// sevens are so many events 7.
func sevens(n int) []int { return slices.Repeat([]int{7}, n) }

// Rounds that have no transitions are counted, too. The last event that is inside
// is another one: where that is taken, a transition tells of it.

func TestRoundsWithoutTransitions(t *testing.T) {
	one := quietly(t, "C(A)", does(on(8, 1), log("8")))
	s := standing(one, set(0, 1))
	checkTake(t, one, s.inside(sevens(18)...).inside(8), 9, s.logs(8))
	checkTake(t, one, s.inside(sevens(19)...).inside(8), 9, s.as(api.Failed))
	checkTake(t, one, s.inside(sevens(20)...).inside(8), 9, s.inside(8).as(api.Failed))
	checkTake(t, one, s.inside(sevens(49)...).inside(8), 9, s.inside(sevens(29)...).inside(8).as(api.Failed))
	checkTake(t, one, s.inside(sevens(18)...).inside(8), 8, s.logs(8, 8))
	checkTake(t, one, s.inside(sevens(18)...).inside(8), 0, s.logs(8))
}

// raised are the events that a Start of four states, each in the one ahead of it,
// begins with.
func raised(t *testing.T, events ...int) twin {
	c := drawn("C(C(C(A)))", does(on(8, 1), log("8")))
	for i, some := range slices.Collect(slices.Chunk(events, api.MaxActs)) {
		c.States[i].Entry = raises(some...)
	}
	return made(t, c)
}

func TestRoundsOfStart(t *testing.T) {
	for _, n := range []int{1, 5, 18, 19} {
		one := raised(t, append(sevens(n-1), 8)...)
		checkStart(t, one, standing(one, set(0, 1, 2, 3)).logs(8))
	}
	one := raised(t, append(sevens(19), 8)...)
	checkStart(t, one, standing(one, set(0, 1, 2, 3)).logs(8).as(api.Failed))
	one = raised(t, append(sevens(18), 8, 7)...)
	checkStart(t, one, standing(one, set(0, 1, 2, 3)).logs(8).as(api.Failed))
}

// More than 50 inside behind a round: no further one is done; with 50 one is. What
// tells of it is a transition for event 0, to the end.

func TestTooManyInside(t *testing.T) {
	one := loudly(t, "C(A F)", on(0, 1, 2), does(on(7, 1), raises(8, 8, 8, 8)...), on(6, 1))
	s, end := standing(one, set(0, 1)), standing(one, set(0, 2)).as(api.Ended)
	fits := func(n, event int, inside []int, logs ...int64) {
		t.Helper()
		checkTake(t, one, s.inside(sevens(n)...), event, end.inside(inside...).logs(logs...).logs(201, 300, 102))
	}
	fails := func(n, event int, inside []int, logs ...int64) {
		t.Helper()
		checkTake(t, one, s.inside(sevens(n)...), event, s.inside(inside...).logs(logs...).as(api.Failed))
	}
	fits(49, 9, sevens(49))
	fits(50, 9, sevens(50))
	fails(51, 9, sevens(51))
	fails(100, 9, sevens(100))
	fits(50, 6, sevens(50), 302)
	fails(51, 6, sevens(51), 302)
	fits(46, 7, append(sevens(46), 8, 8, 8, 8), 301)
	fails(47, 7, append(sevens(47), 8, 8, 8, 8), 301)
	fails(50, 7, append(sevens(50), 8, 8, 8, 8), 301)
}

// Behind a round for an event that was inside: that one isn't there any more.

func TestTooManyBehindOneThatWasInside(t *testing.T) {
	one := quietly(t, "C(A F)", when("a==1", on(0, 1, 2)), does(on(7, 1), append(raises(8, 8, 8, 8), assign(0, "a+1"))...))
	s, end := standing(one, set(0, 1)), standing(one, set(0, 2)).with(1, 0, 0).as(api.Ended)
	checkTake(t, one, s.inside(sevens(47)...), 9, end.inside(append(sevens(46), 8, 8, 8, 8)...))
	checkTake(t, one, s.inside(sevens(48)...), 9, s.with(1, 0, 0).inside(append(sevens(47), 8, 8, 8, 8)...).as(api.Failed))
}

// Behind a round for event 0.

func TestTooManyBehindEvent0(t *testing.T) {
	one := quietly(t, "C(A A F)", does(on(0, 1, 2), raises(8, 8, 8)...), on(0, 2, 3))
	s := standing(one, set(0, 1))
	checkTake(t, one, s.inside(sevens(47)...), 9, standing(one, set(0, 3)).inside(append(sevens(47), 8, 8, 8)...).as(api.Ended))
	checkTake(t, one, s.inside(sevens(48)...), 9, standing(one, set(0, 2)).inside(append(sevens(48), 8, 8, 8)...).as(api.Failed))
}

// ten is a Parallel with ten children, and an end: 0, 1, 2 to 11, and 12.
const ten = "C(P(AAAAAAAAAA) F)"

var allOfTen = set(0, 1, 2, 3, 4, 5, 6, 7, 8, 9, 10, 11)

// errors are so many events that tell of mishaps.
func errors(n int) []int { return slices.Repeat([]int{api.EventError}, n) }

// By mishaps alone, in a round that has no transitions: of 50 one is taken out,
// of 51 none.

func TestTooManyMishaps(t *testing.T) {
	five := slices.Repeat([]api.Trans{when(broken, on(7, 1))}, 5)
	one := quietly(t, ten, append(five, on(api.EventError, 1, 12))...)
	checkTake(t, one, standing(one, allOfTen), 7, standing(one, set(0, 12)).inside(errors(49)...).as(api.Ended))
	one = quietly(t, ten, append(five, on(api.EventError, 1, 12), when(broken, on(7, 5)))...)
	checkTake(t, one, standing(one, allOfTen), 7, standing(one, allOfTen).inside(errors(51)...).as(api.Failed))
}

// So it is in a round for event 0.

func TestTooManyMishapsAtEvent0(t *testing.T) {
	five := slices.Repeat([]api.Trans{when(broken, on(0, 1))}, 5)
	one := quietly(t, ten, append(five, on(api.EventError, 1, 12))...)
	checkStart(t, one, standing(one, set(0, 12)).inside(errors(49)...).as(api.Ended))
	checkTake(t, one, standing(one, allOfTen), 9, standing(one, set(0, 12)).inside(errors(49)...).as(api.Ended))
	checkTake(t, one, standing(one, allOfTen).inside(7), 9, standing(one, allOfTen).inside(7).inside(errors(50)...).as(api.Failed))
	one = quietly(t, ten, append(five, on(api.EventError, 1, 12), when(broken, on(0, 5)))...)
	checkStart(t, one, standing(one, allOfTen).inside(errors(51)...).as(api.Failed))
	checkTake(t, one, standing(one, allOfTen), 9, standing(one, allOfTen).inside(errors(51)...).as(api.Failed))
	one = quietly(t, ten, five...)
	checkStart(t, one, standing(one, allOfTen).inside(errors(99)...).as(api.Failed))
}

// crowded is a row of states, each in the one ahead of it, that raise five events
// each, with one beside them.
func crowded(states int, trans ...api.Trans) api.Chart {
	c := drawn(strings.Repeat("C(", states-1)+"A"+strings.Repeat(")", states-2)+" A)", trans...)
	for s := range states {
		c.States[s].Entry = raises(sevens(api.MaxActs)...)
	}
	return c
}

// To enter the first states is no round: with more than 50 inside behind it there
// is one for event 0 all the same, and no further one.

func TestTooManyAtFirst(t *testing.T) {
	c := crowded(11, on(0, 10, 11), does(on(0, 11), log("0")))
	one := made(t, c)
	checkStart(t, one, standing(one, set(0, 11)).inside(sevens(55)...).as(api.Failed))
	c.Trans = nil
	one = made(t, c)
	checkStart(t, one, standing(one, 1<<11-1).inside(sevens(55)...).as(api.Failed))
	one = made(t, crowded(10))
	checkStart(t, one, standing(one, 1<<10-1).inside(sevens(30)...).as(api.Failed))
	one = made(t, crowded(10, on(0, 9, 10), does(on(0, 10), log("0"))))
	checkStart(t, one, standing(one, set(0, 10)).inside(sevens(50)...).logs(slices.Repeat([]int64{0}, 39)...).as(api.Failed))
}

// A round by which the session Ends, and behind which more than 50 are inside:
// Status is Failed, as it is behind any other one; with 50 it has Ended.

func TestTooManyAtTheEnd(t *testing.T) {
	one := loudly(t, "C(A F)", does(on(7, 1, 2), raise(8)))
	s, end := standing(one, set(0, 1)), standing(one, set(0, 2)).logs(201, 300, 102)
	checkTake(t, one, s.inside(sevens(49)...), 7, end.inside(sevens(49)...).inside(8).as(api.Ended))
	checkTake(t, one, s.inside(sevens(50)...), 7, end.inside(sevens(50)...).inside(8).as(api.Failed))
}

// A session that Ends with the last of the fuel has Ended.

func TestTheEndWithTheLastFuel(t *testing.T) {
	one := quietly(t, "C(A F)", when("a==39", on(0, 1, 2)), does(on(0, 1), assign(0, "a+1")))
	checkStart(t, one, standing(one, set(0, 2)).with(39, 0, 0).as(api.Ended))
	checkTake(t, one, standing(one, set(0, 1)).with(1, 0, 0), 9, standing(one, set(0, 2)).with(39, 0, 0).as(api.Ended))
	checkTake(t, one, standing(one, set(0, 1)).with(0, 0, 0), 9, standing(one, set(0, 1)).with(39, 0, 0).as(api.Failed))
}

// What is active, kept and inside where there is no fuel is what the last round
// left, and so it stays.

func TestWhatIsLeftWithoutFuel(t *testing.T) {
	one := quietly(t, "C(A C(A A S) A)", does(on(0, 1, 2), assign(0, "a+1")), on(0, 3, 4), does(on(0, 4, 1), raise(7)))
	want := standing(one, set(0, 2, 3)).with(14, 0, 0).keeps(5, 4).inside(sevens(13)...).as(api.Failed)
	checkStart(t, one, want)
	for _, event := range []int{0, 7, 9} {
		checkTake(t, one, want, event, want)
	}
}

// Each Take has as much of it as any other one.

func TestFuelIsThereAnew(t *testing.T) {
	c := counts()
	c.Trans[1].Acts = []api.Act{assign(0, "0")}
	one := made(t, c)
	s := standing(one, set(0, 1)).with(5, 38, 0)
	for range 5 {
		s = s.taken(one, 7)
		checkSame(t, "once more", s, standing(one, set(0, 1)).with(38, 38, 0).logs(upTo(1, 38)...))
	}
}
