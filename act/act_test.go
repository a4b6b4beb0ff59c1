package act_test

import (
	"slices"
	"testing"

	"spinet/act"
	"spinet/api"
)

// Actions, each with what its Kind asks for.

func assign(place int, expr string) api.Act {
	return api.Act{Kind: api.Assign, N: place, Expr: expr}
}

func raise(event int) api.Act { return api.Act{Kind: api.Raise, N: event} }

func send(event, delay int, expr string) api.Act {
	return api.Act{Kind: api.Send, N: event, M: delay, Expr: expr}
}

func cancel(id int) api.Act { return api.Act{Kind: api.Cancel, N: id} }

func log(expr string) api.Act { return api.Act{Kind: api.Log, Expr: expr} }

func acts(l ...api.Act) []api.Act { return l }

// What goes out, each with what its Kind tells: all else of it is 0.

func sent(event, delay int, to int64) api.Out {
	return api.Out{Kind: api.Send, Event: event, Delay: delay, To: to}
}

func cancelled(id int64) api.Out { return api.Out{Kind: api.Cancel, To: id} }

func logged(n int64) api.Out { return api.Out{Kind: api.Log, To: n} }

// told is what a call tells: variables, what goes out, what comes inside.
type told struct {
	vars []int64
	outs []api.Out
	ins  []int
}

// left has these variables and nothing else: out and in tell what there is with
// them.
func left(vars ...int64) told { return told{vars: vars} }

func (w told) out(l ...api.Out) told { return told{w.vars, slices.Concat(w.outs, l), w.ins} }

func (w told) in(l ...int) told { return told{w.vars, w.outs, slices.Concat(w.ins, l)} }

func (w told) equals(v told) bool {
	return slices.Equal(w.vars, v.vars) && slices.Equal(w.outs, v.outs) && slices.Equal(w.ins, v.ins)
}

func done(l []api.Act, env []int64) told {
	vars, outs, ins := act.Do(l, env)
	return told{vars, outs, ins}
}

func checkDo(t *testing.T, l []api.Act, env []int64, want told) {
	t.Helper()
	if got := done(l, env); !got.equals(want) {
		t.Errorf("Do(%v, %v) = %v, want %v", l, env, got, want)
	}
}

// P11.1: one action of each Kind.

func TestOneOfEachKind(t *testing.T) {
	env := []int64{3, -4}
	checkDo(t, acts(assign(0, "7")), env, left(7, -4))
	checkDo(t, acts(assign(1, "a*b")), env, left(3, -12))
	checkDo(t, acts(raise(5)), env, left(3, -4).in(5))
	checkDo(t, acts(send(5, 6, "b")), env, left(3, -4).out(sent(5, 6, -4)))
	checkDo(t, acts(cancel(5)), env, left(3, -4).out(cancelled(5)))
	checkDo(t, acts(log("a-b")), env, left(3, -4).out(logged(7)))
}

// What each Kind takes from where, by the Kinds' numbers: fields that it doesn't ask
// for may be set, too, and go nowhere.

func TestFields(t *testing.T) {
	full := func(kind int) api.Act { return api.Act{Kind: kind, N: 10 * kind, M: 10*kind + 1, Expr: "a+5"} }
	checkDo(t, acts(full(2)), []int64{3}, left(3).in(20))
	checkDo(t, acts(full(3)), []int64{3}, left(3).out(api.Out{Kind: 3, Event: 30, Delay: 31, To: 8}))
	checkDo(t, acts(full(4)), []int64{3}, left(3).out(api.Out{Kind: 4, To: 40}))
	checkDo(t, acts(full(5)), []int64{3}, left(3).out(api.Out{Kind: 5, To: 8}))
	checkDo(t, acts(api.Act{Kind: 1, N: 2, M: 1, Expr: "a+5"}), []int64{3, 4, 5}, left(3, 4, 8))
}

// A Send with a Delay and one without; to sessions that an Expr tells.

func TestSends(t *testing.T) {
	env := []int64{0, 1, 7}
	for _, delay := range []int{0, 1, 2, 999, api.MaxDelay} {
		for _, event := range []int{1, 2, 999, api.MaxEvent} {
			checkDo(t, acts(send(event, delay, "c")), env, left(0, 1, 7).out(sent(event, delay, 7)))
		}
	}
	checkDo(t, acts(send(1, 0, "a"), send(1, 0, "-b"), send(1, 2, "c-b")), env,
		left(0, 1, 7).out(sent(1, 0, 0), sent(1, 0, -1), sent(1, 2, 6)))
}

// The number of a Cancel is its N, whatever was sent.

func TestCancels(t *testing.T) {
	env := []int64{9}
	for _, id := range []int{1, 2, 9, 999, api.MaxEvent} {
		checkDo(t, acts(cancel(id)), env, left(9).out(cancelled(int64(id))))
	}
	checkDo(t, acts(send(4, 5, "a"), cancel(4)), env, left(9).out(sent(4, 5, 9), cancelled(4)))
	checkDo(t, acts(cancel(4), send(4, 5, "a")), env, left(9).out(cancelled(4), sent(4, 5, 9)))
}

// A Raise's event comes inside as it is: a user's, and one that no user has.

func TestRaises(t *testing.T) {
	for _, event := range []int{1, 2, 999, api.MaxEvent, api.EventError, api.EventComm, api.EventDone, api.EventDone + 3} {
		checkDo(t, acts(raise(event)), []int64{9}, left(9).in(event))
		checkDo(t, acts(raise(event), log("a"), raise(event)), []int64{9}, left(9).out(logged(9)).in(event, event))
	}
}

// What an Expr is worth is told by layer 4: signs, brackets, numbers from truths.

func TestExprs(t *testing.T) {
	env := []int64{12, -5}
	for expr, n := range map[string]int64{
		"0": 0, "12": 12, "a": 12, "b": -5, " a ": 12, "-a": -12, "--b": -5, "(a)": 12, "a+b": 7, "a-b": 17, "a*b": -60, "a/b": -2, "a%b": 2, "b%a": -5,
		"a+b*2": 2, "(a+b)*2": 14, "10-3-2": 5, "0/7": 0,
	} {
		checkDo(t, acts(assign(0, expr)), env, left(n, -5))
		checkDo(t, acts(assign(1, expr)), env, left(12, n))
		checkDo(t, acts(send(1, 2, expr)), env, left(12, -5).out(sent(1, 2, n)))
		checkDo(t, acts(log(expr)), env, left(12, -5).out(logged(n)))
	}
}

// An Assign reads the variable that it assigns, as it was.

func TestAssignsThatReadTheirOwn(t *testing.T) {
	checkDo(t, acts(assign(0, "a+1")), []int64{3}, left(4))
	checkDo(t, acts(assign(1, "b*b-a")), []int64{3, 4}, left(3, 13))
	checkDo(t, acts(assign(0, "a")), []int64{3}, left(3))
	checkDo(t, acts(assign(0, "-a"), assign(0, "-a")), []int64{3}, left(3))
	checkDo(t, acts(assign(0, "a*2"), assign(0, "a*2"), assign(0, "a*2"), assign(0, "a+1")), []int64{3}, left(25))
}

// All read what was assigned ahead of them, and not what is assigned behind them.

func TestLaterOnesReadWhatWasAssigned(t *testing.T) {
	checkDo(t, acts(assign(0, "b"), assign(1, "a")), []int64{3, 4}, left(4, 4))
	checkDo(t, acts(assign(1, "a"), assign(0, "b")), []int64{3, 4}, left(3, 3))
	checkDo(t, acts(assign(2, "a"), assign(0, "b"), assign(1, "c")), []int64{3, 4, 0}, left(4, 3, 3))
	checkDo(t, acts(assign(0, "a+b"), assign(1, "a-b"), assign(0, "a-b")), []int64{3, 4}, left(4, 3))
	checkDo(t, acts(assign(0, "1"), assign(0, "2"), assign(0, "3")), []int64{9}, left(3))
	checkDo(t, acts(log("a"), assign(0, "a+1"), log("a"), assign(0, "a+1"), log("a")), []int64{3}, left(5).out(logged(3), logged(4), logged(5)))
	checkDo(t, acts(send(1, 0, "a"), assign(0, "b"), send(1, 0, "a")), []int64{3, 4}, left(4, 4).out(sent(1, 0, 3), sent(1, 0, 4)))
}

// A Raise behind a Send, and ahead of one: what goes out and what comes inside
// are told apart.

func TestRaiseAndSend(t *testing.T) {
	checkDo(t, acts(send(7, 0, "1"), raise(7)), nil, left().out(sent(7, 0, 1)).in(7))
	checkDo(t, acts(raise(7), send(7, 0, "1")), nil, left().out(sent(7, 0, 1)).in(7))
	checkDo(t, acts(send(1, 0, "1"), raise(2), send(3, 4, "5"), raise(6)), nil, left().out(sent(1, 0, 1), sent(3, 4, 5)).in(2, 6))
}

// Several of each Kind: what goes out and what comes inside, each in its order,
// also where it isn't rising, and where the same comes twice.

func TestSeveralOfEachKind(t *testing.T) {
	env := []int64{3, 4}
	checkDo(t, acts(raise(3), raise(1), raise(2), raise(1)), env, left(3, 4).in(3, 1, 2, 1))
	checkDo(t, acts(send(3, 9, "a"), send(1, 0, "b"), send(2, 5, "a"), send(3, 9, "a")), env,
		left(3, 4).out(sent(3, 9, 3), sent(1, 0, 4), sent(2, 5, 3), sent(3, 9, 3)))
	checkDo(t, acts(cancel(3), cancel(1), cancel(2), cancel(1)), env, left(3, 4).out(cancelled(3), cancelled(1), cancelled(2), cancelled(1)))
	checkDo(t, acts(log("b"), log("a"), log("5"), log("a")), env, left(3, 4).out(logged(4), logged(3), logged(5), logged(3)))
	checkDo(t, acts(assign(1, "8"), assign(0, "9"), assign(1, "b+1")), env, left(9, 9))
	checkDo(t, acts(
		log("a"), raise(9), cancel(8), assign(0, "b"), send(7, 0, "a"), raise(6), log("a"), assign(1, "0"), cancel(5), send(4, 3, "b"), raise(2),
	), env, left(4, 0).out(logged(3), cancelled(8), sent(7, 0, 4), logged(4), cancelled(5), sent(4, 3, 0)).in(9, 6, 2))
}

// All orders of two Kinds, and of two of one.

func TestOrdersOfTwoKinds(t *testing.T) {
	const a, r, s, c, l = "a", "r", "s", "c", "l"
	one := map[string]api.Act{a: assign(0, "a*10"), r: raise(5), s: send(6, 7, "a+1"), c: cancel(8), l: log("a+2")}
	for pair, want := range map[[2]string]told{
		{a, a}: left(300), {a, r}: left(30).in(5), {a, s}: left(30).out(sent(6, 7, 31)), {a, c}: left(30).out(cancelled(8)), {a, l}: left(30).out(logged(32)),
		{r, a}: left(30).in(5), {r, r}: left(3).in(5, 5), {r, s}: left(3).out(sent(6, 7, 4)).in(5), {r, c}: left(3).out(cancelled(8)).in(5), {r, l}: left(3).out(logged(5)).in(5),
		{s, a}: left(30).out(sent(6, 7, 4)), {s, r}: left(3).out(sent(6, 7, 4)).in(5), {s, s}: left(3).out(sent(6, 7, 4), sent(6, 7, 4)),
		{s, c}: left(3).out(sent(6, 7, 4), cancelled(8)), {s, l}: left(3).out(sent(6, 7, 4), logged(5)),
		{c, a}: left(30).out(cancelled(8)), {c, r}: left(3).out(cancelled(8)).in(5), {c, s}: left(3).out(cancelled(8), sent(6, 7, 4)),
		{c, c}: left(3).out(cancelled(8), cancelled(8)), {c, l}: left(3).out(cancelled(8), logged(5)),
		{l, a}: left(30).out(logged(5)), {l, r}: left(3).out(logged(5)).in(5), {l, s}: left(3).out(logged(5), sent(6, 7, 4)),
		{l, c}: left(3).out(logged(5), cancelled(8)), {l, l}: left(3).out(logged(5), logged(5)),
	} {
		checkDo(t, acts(one[pair[0]], one[pair[1]]), []int64{3}, want)
	}
}
