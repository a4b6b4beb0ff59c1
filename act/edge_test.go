package act_test

import (
	"math"
	"slices"
	"strings"
	"testing"

	"spinet/api"
)

const (
	least        = math.MinInt64
	greatest     = math.MaxInt64
	leastText    = "(-9223372036854775807-1)"
	greatestText = "9223372036854775807"
)

// upTo is variables of which each is worth its place, and one.
func upTo(n int) []int64 {
	env := make([]int64, n)
	for i := range env {
		env[i] = int64(i) + 1
	}
	return env
}

// sizes are of variables: none, as many as there may be, as many as letters, and
// more.
var sizes = []int{0, 1, 2, 7, api.MaxVars, 9, 25, 26, 27, 100}

// P11.1: no actions leave the variables as they are.

func TestNoActions(t *testing.T) {
	for _, l := range [][]api.Act{nil, {}, acts(raise(1))[:0]} {
		checkDo(t, l, nil, left())
		checkDo(t, l, []int64{}, left())
		for _, n := range sizes {
			checkDo(t, l, upTo(n), left(upTo(n)...))
		}
		checkDo(t, l, []int64{least, greatest, 0}, left(least, greatest, 0))
	}
}

// Without variables all that needs none is done, and what needs one is a mishap.

func TestNoVariables(t *testing.T) {
	for _, env := range [][]int64{nil, {}, upTo(3)[:0]} {
		checkDo(t, acts(log("1+2"), raise(3), send(4, 5, "6"), cancel(7)), env, left().out(logged(3), sent(4, 5, 6), cancelled(7)).in(3))
		for _, one := range acts(assign(0, "1"), assign(0, "a"), send(1, 2, "a"), log("a")) {
			checkDo(t, acts(one), env, left().in(api.EventError))
			checkDo(t, acts(raise(7), one, raise(8)), env, left().in(7, api.EventError))
		}
	}
}

// Of however many variables the first one and the last one are there, for an
// Assign and for an Expr (which has letters for 26), and the one behind the last
// one isn't.

func TestFirstAndLastVariable(t *testing.T) {
	for _, n := range sizes[1:] {
		for _, place := range []int{0, n / 2, n - 1} {
			want := upTo(n)
			want[place] = -7
			checkDo(t, acts(assign(place, "-7")), upTo(n), left(want...))
			if place < 26 {
				worth := int64(place) + 1
				checkDo(t, acts(log(letter(place)), send(1, 2, letter(place))), upTo(n), left(upTo(n)...).out(logged(worth), sent(1, 2, worth)))
				want[place] = 10 * worth
				checkDo(t, acts(assign(place, letter(place)+"*10")), upTo(n), left(want...))
			}
		}
		checkDo(t, acts(assign(n, "1")), upTo(n), left(upTo(n)...).in(api.EventError))
		if n < 26 {
			checkDo(t, acts(log(letter(n))), upTo(n), left(upTo(n)...).in(api.EventError))
			checkDo(t, acts(send(1, 2, letter(n))), upTo(n), left(upTo(n)...).in(api.EventError))
			checkDo(t, acts(assign(0, letter(n))), upTo(n), left(upTo(n)...).in(api.EventError))
		}
	}
}

func letter(place int) string { return string(rune('a' + place)) }

// What has room behind the variables' end is no variable.

func TestRoomBehindTheVariables(t *testing.T) {
	env := upTo(9)[:2]
	checkDo(t, acts(assign(1, "5")), env, left(1, 5))
	checkDo(t, acts(assign(2, "5")), env, left(1, 2).in(api.EventError))
	checkDo(t, acts(log("c")), env, left(1, 2).in(api.EventError))
	checkDo(t, acts(assign(8, "5"), log("1")), env, left(1, 2).in(api.EventError))
}

// Each variable is assigned alone, and read alone.

func TestEachVariable(t *testing.T) {
	for _, n := range sizes[1:] {
		env, want := upTo(n), upTo(n)
		var l []api.Act
		for place := range n {
			l = append(l, assign(place, "1000-"+letter(place%26)))
			want[place] = 1000 - want[place%26]
		}
		checkDo(t, l, env, left(want...))
	}
}

// Numbers go round by layer 1, and no action makes a mishap of it.

func TestNumbersGoRound(t *testing.T) {
	env := []int64{least, greatest, -1}
	for expr, n := range map[string]int64{
		"b+1": least, "a-1": greatest, "a+c": greatest, "-a": least, "a*c": least, "a/c": least, "a%c": 0, "b*b": 1, "a+a": 0, "b+b": -2, "-b-1": least, "b-a": -1,
	} {
		checkDo(t, acts(assign(2, expr)), env, left(least, greatest, n))
		checkDo(t, acts(send(1, 2, expr), log(expr)), env, left(env...).out(sent(1, 2, n), logged(n)))
	}
	checkDo(t, acts(assign(1, "b+1"), assign(1, "b-1"), assign(0, "a-1"), assign(0, "a+1"), log("a"), log("b")), env, left(env...).out(logged(least), logged(greatest)))
}

// The least and the greatest number as a value: read, written in an Expr, assigned
// and told.

func TestLeastAndGreatestValue(t *testing.T) {
	for text, n := range map[string]int64{leastText: least, greatestText: greatest, "0": 0, "-1": -1} {
		checkDo(t, acts(assign(0, text)), []int64{5}, left(n))
		checkDo(t, acts(send(1, 2, text), log(text)), nil, left().out(sent(1, 2, n), logged(n)))
		checkDo(t, acts(assign(1, "a"), log("b"), send(3, 4, "b")), []int64{n, 5}, left(n, n).out(logged(n), sent(3, 4, n)))
	}
	checkDo(t, acts(log("9223372036854775808")), nil, left().in(api.EventError))
}

// The least and the greatest N and M of those that tell them: no Kind asks whether
// an event, a Delay or an id may be.

func TestLeastAndGreatestNAndM(t *testing.T) {
	for _, n := range []int{math.MinInt, -1, 0, 1, 1000, 1001, math.MaxInt - 1, math.MaxInt} {
		checkDo(t, acts(raise(n)), []int64{5}, left(5).in(n))
		checkDo(t, acts(cancel(n)), []int64{5}, left(5).out(cancelled(int64(n))))
		for _, m := range []int{math.MinInt, -1, 0, 1, 1000, 1001, math.MaxInt} {
			checkDo(t, acts(send(n, m, "a")), []int64{5}, left(5).out(sent(n, m, 5)))
		}
	}
}

// An Expr that is empty, or of spaces, doesn't parse: a mishap.

func TestEmptyExprs(t *testing.T) {
	for _, expr := range []string{"", " ", "  ", strings.Repeat(" ", api.MaxText), strings.Repeat(" ", api.MaxText+1)} {
		for _, one := range acts(assign(0, expr), send(1, 2, expr), log(expr)) {
			checkDo(t, acts(one), []int64{5}, left(5).in(api.EventError))
			checkDo(t, acts(log("a"), one, log("a")), []int64{5}, left(5).out(logged(5)).in(api.EventError))
		}
	}
}

// An Expr of MaxText bytes, and one whose postfix is of MaxToks tokens, has a
// number; with one more it hasn't.

func TestLengthsOfExprs(t *testing.T) {
	long, deep := strings.Repeat(" ", api.MaxText-3)+"a*2", strings.Repeat("-", api.MaxToks-1)+"a"
	for expr, n := range map[string]int64{long: 10, deep: -5} {
		checkDo(t, acts(log(expr), send(1, 2, expr), assign(0, expr)), []int64{5}, left(n).out(logged(n), sent(1, 2, n)))
	}
	for _, expr := range []string{" " + long, long + " ", "-" + deep, deep + "+1"} {
		for _, one := range acts(assign(0, expr), send(1, 2, expr), log(expr)) {
			checkDo(t, acts(one), []int64{5}, left(5).in(api.EventError))
		}
	}
}

// A list may have more than MaxActs, and be long.

func TestLongLists(t *testing.T) {
	const many = 3000
	l := slices.Repeat(acts(assign(0, "a+1"), log("a"), raise(7), cancel(8), send(9, 0, "-a")), many)
	want := left(many)
	for i := range int64(many) {
		want.outs = append(want.outs, logged(i+1), cancelled(8), sent(9, 0, -i-1))
	}
	want.ins = slices.Repeat([]int{7}, many)
	checkDo(t, l, []int64{0}, want)
	checkDo(t, append(l, log(""), log("a"), raise(1)), []int64{0}, want.in(api.EventError))
	for n := range api.MaxActs + 3 {
		checkDo(t, slices.Repeat(acts(raise(4)), n), nil, left().in(slices.Repeat([]int{4}, n)...))
	}
}
