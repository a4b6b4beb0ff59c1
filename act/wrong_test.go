package act_test

import (
	"math"
	"slices"
	"strings"
	"testing"

	"spinet/api"
)

// three are variables of which the last one is 0, and stays so in what is done
// ahead.
func three() []int64 { return []int64{3, 4, 0} }

// part is actions without a mishap, and what they tell of three.
type part struct {
	acts []api.Act
	told told
}

func ahead() []part {
	return []part{
		{nil, left(3, 4, 0)},
		{acts(raise(7)), left(3, 4, 0).in(7)},
		{acts(assign(0, "b+1")), left(5, 4, 0)},
		{acts(log("b")), left(3, 4, 0).out(logged(4))},
		{acts(send(1, 2, "a"), cancel(1)), left(3, 4, 0).out(sent(1, 2, 3), cancelled(1))},
		{
			acts(raise(8), assign(1, "a*a"), log("b"), send(1, 0, "b+1"), raise(7), cancel(2), assign(0, "1")),
			left(1, 9, 0).out(logged(9), sent(1, 0, 10), cancelled(2)).in(8, 7),
		},
	}
}

// behind are actions of which each would be seen if it were done: what is at
// fault, too, as one more EventError.
func behind() [][]api.Act {
	return [][]api.Act{
		nil, acts(raise(6)), acts(cancel(6)), acts(log("6")), acts(send(6, 6, "6")), acts(assign(0, "66")), acts(assign(2, "a")),
		acts(log("")), acts(assign(-1, "6")), acts(raise(5), log("1/0"), cancel(6), assign(1, "6"), send(6, 0, "a")),
	}
}

// checkMishap asks one that is at fault as the first action, between others, and
// as the last one.
func checkMishap(t *testing.T, one api.Act) {
	t.Helper()
	for _, first := range ahead() {
		for _, rest := range behind() {
			checkDo(t, slices.Concat(first.acts, acts(one), rest), three(), first.told.in(api.EventError))
		}
	}
}

// checkNoNumber is of an Expr that has no number, in each action that asks for
// one.
func checkNoNumber(t *testing.T, expr string) {
	t.Helper()
	for place := range three() {
		checkMishap(t, assign(place, expr))
	}
	checkMishap(t, send(1, 0, expr))
	checkMishap(t, send(1, 2, expr))
	checkMishap(t, log(expr))
}

// P11.1: an Expr that doesn't parse is a mishap: EventError comes inside, behind
// what came ahead, and no further action is done.

func TestExprsThatDontParse(t *testing.T) {
	for _, expr := range []string{
		"", " ", "+", "a+", "+a", "a b", "1 2", "(a", "a)", "()", "ab", "tru", "a=b", "a!b", "A", "?", "\t1", "1\n", "\x00", "\xff", "ä", "1.5", "0x1", "1e3",
		"a<b<c", "a+not true", "9223372036854775808", "99999999999999999999999", "a,b", "not", "(((((((((((((((a",
	} {
		checkNoNumber(t, expr)
	}
}

func TestExprsThatAreTooLong(t *testing.T) {
	for _, expr := range []string{
		strings.Repeat(" ", api.MaxText) + "1", "1" + strings.Repeat(" ", api.MaxText), strings.Repeat("1", api.MaxText+1), strings.Repeat("a+", api.MaxText) + "a",
		strings.Repeat("-", api.MaxToks) + "1", "a" + strings.Repeat("+a", api.MaxToks/2), strings.Repeat("(", 5000),
	} {
		checkNoNumber(t, expr)
	}
}

func TestExprsWithVariablesThatArentThere(t *testing.T) {
	for _, expr := range []string{"d", "e", "z", "a+d", "d+a", "-z", "0*d", "(d)", "d/0", "d==d"} {
		checkNoNumber(t, expr)
	}
}

func TestExprsDividedByZero(t *testing.T) {
	for _, expr := range []string{"1/0", "1%0", "0/0", "0%0", "a/c", "a%c", "c/c", "1/(b-b)", "1+a/c", "0*(1/0)", "1/0*0", "1/(0/1)", "(1/0)==1", "1/0==1 or true"} {
		checkNoNumber(t, expr)
	}
}

func TestExprsThatDontFitTheirTypes(t *testing.T) {
	for _, expr := range []string{
		"1+true", "true+1", "a*false", "true-true", "-true", "-(a<b)", "not 1", "not a", "a and b", "1 or true", "true and 1", "true<false", "1<true", "1==true", "true!=a",
		"(a<b)+1", "(a==b)/c", "true%c",
	} {
		checkNoNumber(t, expr)
	}
}

// A truth is no number, whichever it is.

func TestExprsThatAreTruths(t *testing.T) {
	for _, expr := range []string{"true", "false", "a<b", "b<a", "a<=b", "a==a", "a!=a", "not true", "not false", "true and true", "false or false", "true==false", "1==1", "(true)"} {
		checkNoNumber(t, expr)
	}
}

// An Assign to a variable that isn't there is a mishap, one alone, with an Expr
// that has a number, and with one that hasn't.

func TestAssignsToVariablesThatArentThere(t *testing.T) {
	for _, place := range nowhere(len(three())) {
		for _, expr := range []string{"0", "1", "a", "a+b*c", "", " ", "?", "d", "1/0", "a/c", "true", "a<b", "1+true", strings.Repeat("1", 300)} {
			checkMishap(t, assign(place, expr))
		}
	}
	for _, n := range sizes {
		for _, place := range nowhere(n) {
			for _, expr := range []string{"1", "", "true"} {
				checkDo(t, acts(raise(7), assign(place, expr), raise(8)), upTo(n), left(upTo(n)...).in(7, api.EventError))
			}
		}
	}
}

// nowhere are no places of so many.
func nowhere(n int) []int {
	return []int{
		-1, -2, -n, -n - 1, n, n + 1, 2*n + 3, 1000, 1 << 32, -1 << 32, math.MinInt32, math.MaxInt32, math.MaxUint32,
		math.MinInt, math.MinInt + 1, math.MaxInt, math.MaxInt - 1,
	}
}

// What is amiss hangs on the variables as they are then.

func TestMishapsByWhatWasAssigned(t *testing.T) {
	checkDo(t, acts(log("a/b"), assign(1, "0"), log("a/b"), log("a")), []int64{8, 2}, left(8, 0).out(logged(4)).in(api.EventError))
	checkDo(t, acts(assign(1, "1"), log("a/b"), log("a")), []int64{8, 0}, left(8, 1).out(logged(8), logged(8)))
	checkDo(t, acts(assign(1, "a-8"), assign(1, "a/b"), assign(0, "1")), []int64{8, 3}, left(8, 0).in(api.EventError))
	checkDo(t, acts(assign(0, "a-1"), assign(1, "6/a"), assign(0, "a-1"), assign(1, "6/a"), raise(7)), []int64{2, 9}, left(0, 6).in(api.EventError))
	checkDo(t, acts(assign(0, "0"), send(1, 2, "b/a"), assign(0, "1")), []int64{2, 9}, left(0, 9).in(api.EventError))
}

// What is at fault leaves the variable that it would have assigned as it was.

func TestNothingIsAssignedByAMishap(t *testing.T) {
	for place := range three() {
		for _, expr := range []string{"", "d", "1/0", "true", "1+true"} {
			checkDo(t, acts(assign(place, expr)), three(), left(three()...).in(api.EventError))
			checkDo(t, acts(assign(place, "7"), assign(place, expr)), three(), done(acts(assign(place, "7")), three()).in(api.EventError))
		}
	}
}

// Several that are at fault are one EventError: the first one's.

func TestSeveralMishaps(t *testing.T) {
	checkDo(t, acts(log(""), log(""), log("")), nil, left().in(api.EventError))
	checkDo(t, acts(raise(1), assign(-1, "true"), raise(2), send(1, 1, "z"), raise(3)), three(), left(3, 4, 0).in(1, api.EventError))
	checkDo(t, acts(log("1"), log("true"), log("2"), assign(9, "1"), log("3")), three(), left(3, 4, 0).out(logged(1)).in(api.EventError))
}

// A Raise of EventError is none: what follows is done.

func TestRaiseOfEventError(t *testing.T) {
	checkDo(t, acts(raise(api.EventError), log("a"), raise(2), assign(0, "5")), three(), left(5, 4, 0).out(logged(3)).in(api.EventError, 2))
	checkDo(t, acts(raise(api.EventError), log("z"), raise(2)), three(), left(3, 4, 0).in(api.EventError, api.EventError))
}

// noKinds are of no action.
var noKinds = []int{0, -1, -2, -5, 6, 7, 10, 19, 256 + 1, 1<<32 + 1, 1<<32 + 5, math.MinInt, math.MinInt + 1, math.MinInt + 5, math.MaxInt}

// P11.1: an action of another Kind does nothing, wherever it stands and whatever
// its fields are: no mishap, either.

func TestActionsOfNoKind(t *testing.T) {
	for _, kind := range noKinds {
		for _, n := range []int{0, 1, -1, 3, 1000, math.MinInt, math.MaxInt} {
			for _, expr := range []string{"", "1", "a+1", "?", "z", "1/0", "true", strings.Repeat("1", 300)} {
				checkNothing(t, api.Act{Kind: kind, N: n, M: -n, Expr: expr})
			}
		}
	}
}

func checkNothing(t *testing.T, one api.Act) {
	t.Helper()
	checkDo(t, acts(one), nil, left())
	for _, first := range ahead() {
		checkDo(t, append(acts(one), first.acts...), three(), first.told)
		checkDo(t, append(slices.Clone(first.acts), one), three(), first.told)
		between := slices.Concat(acts(one, one), first.acts, acts(one, one, log("c"), one, raise(9), one))
		checkDo(t, between, three(), first.told.out(logged(0)).in(9))
		checkDo(t, append(between, log("true"), one, raise(1)), three(), first.told.out(logged(0)).in(9, api.EventError))
	}
}

// Fields that a Kind doesn't ask for may be whatever they are: of a Raise and a
// Cancel M and Expr, of an Assign M, of a Log N and M.

func TestFieldsThatArentAskedFor(t *testing.T) {
	for _, expr := range []string{"", " ", "1", "a", "?", "d", "1/0", "true", "1+true", "a<b<c", "\xff", strings.Repeat("1", 300), strings.Repeat("-", 100) + "1"} {
		for _, m := range []int{0, 1, -1, 1001, math.MinInt, math.MaxInt} {
			l := acts(api.Act{Kind: api.Raise, N: 5, M: m, Expr: expr}, api.Act{Kind: api.Cancel, N: 6, M: m, Expr: expr}, log("a"))
			checkDo(t, l, three(), left(3, 4, 0).out(cancelled(6), logged(3)).in(5))
			checkDo(t, l, nil, left().out(cancelled(6)).in(5, api.EventError))
		}
	}
	for _, m := range []int{0, 1, -1, 3, 1001, math.MinInt, math.MaxInt} {
		checkDo(t, acts(api.Act{Kind: api.Assign, N: 1, M: m, Expr: "a+c"}), three(), left(3, 3, 0))
		checkDo(t, acts(api.Act{Kind: api.Log, N: m, M: -m, Expr: "a+b"}), three(), left(3, 4, 0).out(logged(7)))
		checkDo(t, acts(api.Act{Kind: api.Log, N: -m, M: m, Expr: "a+b"}), nil, left().in(api.EventError))
	}
}
