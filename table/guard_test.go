package table_test

import (
	"math"
	"strings"
	"testing"

	"spinet/api"
)

// checkEach asks a Guard of each transition of a chart in which several have it,
// for whatever event they are, and wherever from and to.
func checkEach(t *testing.T, guard string, env []int64, holds, mishap bool) {
	t.Helper()
	all := []api.Trans{
		{Source: 1, Event: 7, Guard: guard},
		{Source: 2, Event: 0, Guard: guard, Targets: []int{4}, Internal: true},
		{Source: 11, Event: api.EventError, Guard: guard, Targets: []int{13, 21}},
		{Source: 17, Event: api.EventDone, Guard: guard, Acts: []api.Act{{Kind: api.Raise, N: 5}}},
	}
	one := made(t, drawn(rich, all...))
	for i := range all {
		checkGuard(t, one, i, env, holds, mishap)
	}
}

// P14.2: an empty Guard holds, whatever the variables are.

func TestEmptyGuard(t *testing.T) {
	for _, env := range [][]int64{nil, {}, {0}, {1, 2, 3}, make([]int64, 100)} {
		checkEach(t, "", env, true, false)
	}
}

// Another one holds, if it is true with the variables.

func TestGuard(t *testing.T) {
	for _, one := range []struct {
		guard string
		env   []int64
		holds bool
	}{
		{"true", nil, true},
		{"false", nil, false},
		{"not false", nil, true},
		{"not true", []int64{1, 2, 3}, false},
		{"1==1", nil, true},
		{"1==2", nil, false},
		{"a==0", []int64{0, 1, 1}, true},
		{"a==0", []int64{1, 0, 0}, false},
		{"a<b", []int64{1, 2, 0}, true},
		{"a<b", []int64{2, 1, 0}, false},
		{"a<b", []int64{2, 2, 3}, false},
		{"a<=b", []int64{2, 2, 0}, true},
		{"c!=-5", []int64{0, 0, -5}, false},
		{"c!=-5", []int64{-5, -5, 0}, true},
		{"a<b and b<c", []int64{1, 2, 3}, true},
		{"a<b and b<c", []int64{1, 2, 2}, false},
		{"a<b or b<c", []int64{1, 1, 2}, true},
		{"a<b or b<c", []int64{1, 1, 1}, false},
		{"a/b==1", []int64{3, 2, 0}, true},
		{"a/b==1", []int64{4, 2, 0}, false},
		{"a%b==0", []int64{4, -2, 1}, true},
		{"a+1<a", []int64{math.MaxInt64, 0, 0}, true}, // it goes round
		{"a+1<a", []int64{math.MaxInt64 - 1, 0, 0}, false},
		{"true!=false", nil, true},
		{"(a<b)==(b<c)", []int64{1, 2, 1}, false},
		{"not (a<b)==false", []int64{1, 2, 0}, true},
		{" a == 1 ", []int64{1, 0, 0}, true},
	} {
		checkEach(t, one.guard, one.env, one.holds, false)
	}
}

// One with an error doesn't, and is a mishap: where it is divided by 0, even if
// what it gives would hang on something else alone.

func TestGuardDividedByZero(t *testing.T) {
	for _, guard := range []string{
		"1/0==1", "1/0!=1", "1%0==0", "a/b==1", "a%b==0", "not a/b==1", "a/(c-c)<1", "true or 1/0==1", "false and 1/0==1", "1%0==0 or true", "a/b==a/b",
	} {
		checkEach(t, guard, []int64{1, 0, 5}, false, true)
		checkEach(t, guard, []int64{0, 0, 0, 4}, false, true)
	}
}

// Or where a variable is missing.

func TestGuardWithoutItsVariables(t *testing.T) {
	for _, one := range []struct {
		guard string
		needs int
	}{
		{"a==a", 1}, {"a<b", 2}, {"b<a", 2}, {"b==b", 2}, {"c==c", 3}, {"a==1 or c!=7", 3},
		{"true or c==1", 3}, {"not (false and b==1)", 2}, {"a<=b and a<=c", 3}, {"0*c==0", 3}, {"true", 0}, {"1<2", 0},
	} {
		for n := range 12 {
			env := make([]int64, n)
			holds := n >= one.needs && !strings.Contains(one.guard, "<b") && !strings.Contains(one.guard, "<a")
			checkEach(t, one.guard, env, holds, n < one.needs)
			checkEach(t, one.guard, append(env, 0, 0, 0)[:n], holds, n < one.needs) // what is behind its end isn't its own
		}
	}
}

// Of two errors either is a mishap.

func TestGuardWithTwoErrors(t *testing.T) {
	checkEach(t, "1/0==b", []int64{1}, false, true)
	checkEach(t, "b==1/0", []int64{1}, false, true)
	checkEach(t, "b==1/0", nil, false, true)
}

// More variables than there may be change nothing.

func TestGuardWithMoreVariables(t *testing.T) {
	for _, n := range []int{3, 4, 8, 9, 26, 27, 1000, 100_000} {
		env := make([]int64, n)
		env[1], env[2] = 5, -5
		checkEach(t, "a<b", env, true, false)
		checkEach(t, "b<=c", env, false, false)
		checkEach(t, "b/a==1", env, false, true)
		checkEach(t, "", env, true, false)
	}
}

// The same Guard is true, false or a mishap as the variables are, and one time
// as the other.

func TestGuardHangsOnTheVariables(t *testing.T) {
	one := made(t, drawn(smallest, when(1, "6/a<b"), from(1)))
	for range 3 {
		checkGuard(t, one, 0, []int64{3, 3}, true, false)
		checkGuard(t, one, 1, nil, true, false)
		checkGuard(t, one, 0, []int64{3, 2}, false, false)
		checkGuard(t, one, 0, []int64{0, 3}, false, true)
		checkGuard(t, one, 0, []int64{3}, false, true)
	}
}

// Each transition has a Guard of its own: some, none, the same.

func TestGuardOfEachTransition(t *testing.T) {
	one := made(t, drawn(rich, when(1, "a==1"), from(1), when(1, "a==2"), when(2, "1/a==1"), when(1, "a==1"), from(2), when(11, "not a==1")))
	want := map[int64][]int{0: {1, 5, 6}, 1: {0, 1, 3, 4, 5}, 2: {1, 2, 5, 6}}
	for a, holding := range want {
		for i := range 7 {
			checkGuard(t, one, i, []int64{a}, set(holding...)>>i&1 == 1, a == 0 && i == 3)
		}
	}
}
