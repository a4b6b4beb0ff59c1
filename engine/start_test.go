package engine_test

import (
	"math"
	"slices"
	"strings"
	"testing"

	"spinet/api"
)

// The chapter's example: one Atomic in the first state is active, and no event
// changes that.

func TestOneAtomic(t *testing.T) {
	one := loudly(t, smallest)
	checkStart(t, one, standing(one, set(0, 1)).logs(100, 101))
	for _, event := range events() {
		checkTake(t, one, standing(one, set(0, 1)), event, standing(one, set(0, 1)))
	}
}

// events are such as there may be, and others.
func events() []int {
	return []int{
		0, 1, 2, 7, 999, api.MaxEvent, api.EventError, api.EventComm, api.EventDone, done(1), done(23),
		-1, -7, 1003, 1999, done(24), 1 << 16, 1 << 32, math.MinInt, math.MaxInt,
	}
}

// P15.1: from nothing on the first states are entered, from the outermost on:
// where there is nothing to settle, that is all.

func TestStartOfFirstStates(t *testing.T) {
	for s, conf := range map[string][]int{
		smallest:                              {0, 1},
		nest:                                  {0, 1},
		strings.Replace(nest, "C", "C17", 1):  members(inner),
		strings.Replace(nest, "C", "C21", 1):  {0, 2, 21},
		"C2(A C(A A))":                        {0, 2, 3},
		"C(P(C(A A) C(A A)) A)":               {0, 1, 2, 3, 5, 6},
		"C(P(A C(A P(A A)) S D) A)":           {0, 1, 2, 3, 4},
		"C4(A C3(A C(A A)))":                  {0, 2, 4, 5},
		"C7(P(C(A A) C6(A A A) C(A A)))":      {0, 1, 2, 3, 5, 7, 9, 10},
		"C2(A C3(P(C6(A A) C9(A A))))":        {0, 2, 3, 4, 6, 7, 9},
		"C8(P(P(C(A A) A) P(C(A A) C(A A))))": {0, 1, 2, 3, 4, 6, 7, 8, 9, 11, 12},
		"C(P(A S C(C(A) A) D) A)":             {0, 1, 2, 4, 5, 6},
		chain():                               members(1<<24 - 1),
		mixed():                               members(1<<24 - 1),
		flat():                                {0, 1},
		wide():                                members(1<<24 - 1),
	} {
		one := loudly(t, s, on(7, 1, 1), on(8, 1), when("a==1", on(0, 1)), on(done(0), 1))
		want := standing(one, set(conf...))
		for _, k := range conf {
			want = want.logs(int64(100 + k))
		}
		checkStart(t, one, want)
	}
}

// It settles: transitions for event 0 are taken from the first states on, one
// round behind the other.

func TestStartSettles(t *testing.T) {
	one := loudly(t, "C(A A A A)", on(0, 1, 2), on(0, 3, 4), on(0, 2, 3))
	checkStart(t, one, standing(one, set(0, 4)).logs(100, 101, 201, 300, 102, 202, 302, 103, 203, 301, 104))
	one = loudly(t, "C3(A A A A)", on(0, 1, 2), on(0, 3, 4), on(0, 2, 3))
	checkStart(t, one, standing(one, set(0, 4)).logs(100, 103, 203, 301, 104))
	one = loudly(t, "C4(A A A A)", on(0, 1, 2), on(0, 3, 4), on(0, 2, 3))
	checkStart(t, one, standing(one, set(0, 4)).logs(100, 104))
}

// In several regions at once, and out of them by what is done in one.

func TestStartSettlesInRegions(t *testing.T) {
	one := loudly(t, strings.Replace(nest, "C", "C17", 1), on(0, 5, 6), on(0, 17, 18), on(done(16), 3, 21))
	checkStart(t, one, standing(one, set(0, 2, 21)).keeps(7, 6).keeps(13, 10, 12).keeps(19, 18).
		logs(100, 102, 103, 104, 105, 108, 109, 110, 112, 114, 116, 117).
		logs(217, 205, 300, 301, 106, 118).
		logs(218, 216, 214, 212, 210, 209, 208, 206, 204, 203, 302, 121))
}

// Events that Entry actions raised are taken, in their order.

func TestStartTakesWhatWasRaised(t *testing.T) {
	c := loud(drawn("C(A A A)", on(7, 1, 2), on(8, 2, 3)))
	c.States[0].Entry = append(c.States[0].Entry, raise(7))
	c.States[1].Entry = append(c.States[1].Entry, raise(8))
	one := made(t, c)
	checkStart(t, one, standing(one, set(0, 3)).logs(100, 101, 201, 300, 102, 202, 301, 103))
	c.States[0].Entry[1], c.States[1].Entry[1] = raise(8), raise(7)
	one = made(t, c)
	checkStart(t, one, standing(one, set(0, 2)).logs(100, 101, 201, 300, 102))
	c.States[0].Entry[1], c.States[1].Entry[1] = raise(9), raise(9)
	one = made(t, c)
	checkStart(t, one, standing(one, set(0, 1)).logs(100, 101))
}

// So is what tells that a first state is done.

func TestStartTakesWhatIsDone(t *testing.T) {
	one := loudly(t, "C(C(F A) A)", on(done(1), 1, 4))
	checkStart(t, one, standing(one, set(0, 4)).logs(100, 101, 102, 202, 201, 300, 104))
	one = loudly(t, "C(P(C(F A) C(F A)) A)", on(done(1), 1, 8))
	checkStart(t, one, standing(one, set(0, 8)).logs(100, 101, 102, 103, 105, 106, 206, 205, 203, 202, 201, 300, 108))
	one = loudly(t, "C(C(F A) A)", on(done(2), 1, 4))
	checkStart(t, one, standing(one, set(0, 1, 2)).logs(100, 101, 102))
}

// A session that has Ended at once is not settled: what is inside stays there.

func TestStartEndsAtOnce(t *testing.T) {
	c := loud(drawn("C(F A)", on(7, 2, 1), on(0, 2, 1)))
	one := made(t, c)
	checkStart(t, one, standing(one, set(0, 1)).logs(100, 101).as(api.Ended))
	c.States[0].Entry = append(c.States[0].Entry, raises(7, 8)...)
	c.States[1].Entry = append(c.States[1].Entry, raises(9, 7)...)
	one = made(t, c)
	checkStart(t, one, standing(one, set(0, 1)).logs(100, 101).inside(7, 8, 9, 7).as(api.Ended))
	c.States[1].Entry[1] = log("1/a")
	one = made(t, c)
	checkStart(t, one, standing(one, set(0, 1)).logs(100, 101).inside(7, 8, api.EventError).as(api.Ended))
}

// Or by what settles it.

func TestStartEndsByAndBy(t *testing.T) {
	c := loud(drawn("C(A A F)", on(0, 1, 2), on(8, 2, 3)))
	c.States[0].Entry = append(c.States[0].Entry, raises(7, 8, 9)...)
	one := made(t, c)
	checkStart(t, one, standing(one, set(0, 3)).logs(100, 101, 201, 300, 102, 202, 301, 103).inside(9).as(api.Ended))
}

// The variables are 0 at first; what the first states' Entry actions leave in them
// Guards read.

func TestStartVariables(t *testing.T) {
	c := drawn("C(A A A)", when("a==0", on(0, 1, 2)), when("a==6", on(0, 1, 3)))
	one := made(t, c)
	checkStart(t, one, standing(one, set(0, 2)))
	c.States[0].Entry = []api.Act{assign(0, "a+2")}
	c.States[1].Entry = []api.Act{assign(0, "a*3"), log("a")}
	one = made(t, c)
	checkStart(t, one, standing(one, set(0, 3)).with(6, 0, 0).logs(6))
	c.Vars, c.States[0].Entry, c.States[1].Entry = 0, nil, nil
	c.Trans = []api.Trans{when("1<2", on(0, 1, 3))}
	one = made(t, c)
	checkStart(t, one, standing(one, set(0, 3)))
}

// A mishap of a first state's Entry actions is taken as any event is.

func TestStartMishap(t *testing.T) {
	c := loud(drawn("C(A A)", on(api.EventError, 1, 2)))
	c.States[1].Entry = append(c.States[1].Entry, log("1/a"), log("1"))
	one := made(t, c)
	checkStart(t, one, standing(one, set(0, 2)).logs(100, 101, 201, 300, 102))
}

// What goes out of the first states stands ahead of what settling tells, of each
// Kind.

func TestStartGoesOutInOrder(t *testing.T) {
	send := func(event int) api.Act { return api.Act{Kind: api.Send, N: event, M: event * 10, Expr: "a"} }
	c := drawn("C(A A)", does(on(0, 1, 2), send(3), log("30")), does(on(7, 2), send(5), api.Act{Kind: api.Cancel, N: 50}))
	c.States[0].Entry = []api.Act{assign(0, "9"), send(1), raise(7)}
	c.States[1].Entry = []api.Act{{Kind: api.Cancel, N: 2}, log("20")}
	c.States[2].Entry = []api.Act{send(4)}
	one := made(t, c)
	want := standing(one, set(0, 2)).with(9, 0, 0)
	want.outs = []api.Out{
		{Kind: api.Send, Event: 1, Delay: 10, To: 9}, {Kind: api.Cancel, To: 2}, {Kind: api.Log, To: 20},
		{Kind: api.Send, Event: 3, Delay: 30, To: 9}, {Kind: api.Log, To: 30}, {Kind: api.Send, Event: 4, Delay: 40, To: 9},
		{Kind: api.Send, Event: 5, Delay: 50, To: 9}, {Kind: api.Cancel, To: 50},
	}
	checkStart(t, one, want)
}

// A table that was asked once tells the same again.

func TestStartAgain(t *testing.T) {
	for _, s := range []string{smallest, nest, chain(), mixed(), flat(), wide()} {
		one := loudly(t, s, does(when("a<3", on(0, 1)), assign(0, "a+1"), raise(7)), on(7, 1))
		first := started(one)
		if again := started(one); !first.equals(again) || !slices.Equal(first.Env, []int64{3, 0, 0}) {
			t.Errorf("Start told %v, and then %v", first, again)
		}
	}
}
