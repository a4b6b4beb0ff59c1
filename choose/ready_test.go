package choose_test

import (
	"errors"
	"math"
	"strings"
	"testing"

	"spinet/api"
	"spinet/tree"
)

// events are some of each sort that a transition may have, where there are 23
// states.
var events = []int{0, 1, 2, 7, 999, 1000, api.EventError, api.EventComm, api.EventDone, api.EventDone + 3, api.EventDone + 22}

// others are events that none has.
var others = []int{-1, -7, math.MinInt, math.MinInt + 1, 3, 8, 998, 1003, 1999, api.EventDone + 4, api.EventDone + 23, 1 << 32, 1<<32 + 7, 1<<62 + 7, math.MaxInt}

// checkGuard asks, of a transition for each event with this Guard, for its own
// event, and for all others.
func checkGuard(t *testing.T, guard string, env []int64, ready, mishap bool) {
	t.Helper()
	c := drawn(nest)
	for i, event := range events {
		one := to([]int{5, 2, 3, 16}[i%4], i+1)
		one.Guard, one.Internal = guard, i%2 == 0
		c.Trans = append(c.Trans, of(event, one))
	}
	one := planted(t, c)
	for i, own := range events {
		checkReady(t, one, env, i, own, ready, mishap)
		for _, event := range events {
			if event != own {
				checkReady(t, one, env, i, event, false, false)
			}
		}
		for _, event := range others {
			checkReady(t, one, env, i, event, false, false)
		}
	}
}

// P10.1: without a Guard it is ready for its event, whatever the variables are.

func TestReadyWithoutGuard(t *testing.T) {
	for _, env := range [][]int64{nil, {}, {0}, {1, 2, 3}, make([]int64, 100)} {
		checkGuard(t, "", env, true, false)
	}
}

// With a Guard it is, if that is true with the variables.

func TestReadyWithGuard(t *testing.T) {
	for _, one := range []struct {
		guard string
		env   []int64
		ready bool
	}{
		{"true", nil, true},
		{"false", nil, false},
		{"not false", nil, true},
		{"not true", []int64{1, 2, 3}, false},
		{"1==1", nil, true},
		{"1==2", nil, false},
		{"a==0", []int64{0}, true},
		{"a==0", []int64{1}, false},
		{"a<b", []int64{1, 2}, true},
		{"a<b", []int64{2, 1}, false},
		{"a<b", []int64{2, 2}, false},
		{"a<=b", []int64{2, 2}, true},
		{"c!=-5", []int64{0, 0, -5}, false},
		{"c!=-5", []int64{-5, -5, 0}, true},
		{"a<b and b<c", []int64{1, 2, 3}, true},
		{"a<b and b<c", []int64{1, 2, 2}, false},
		{"a<b or b<c", []int64{1, 1, 2}, true},
		{"a/b==1", []int64{3, 2}, true},
		{"a/b==1", []int64{4, 2}, false},
		{"a%b==0", []int64{4, -2}, true},
		{"a+1<a", []int64{math.MaxInt64}, true}, // it goes round
		{"a+1<a", []int64{math.MaxInt64 - 1}, false},
		{"true!=false", nil, true},
		{"(a<b)==(b<c)", []int64{1, 2, 1}, false},
		{"not (a<b)==false", []int64{1, 2}, true},
		{" a == 1 ", []int64{1}, true},
	} {
		checkGuard(t, one.guard, one.env, one.ready, false)
	}
}

// More variables than there may be change nothing.

func TestReadyWithMoreVariables(t *testing.T) {
	for _, n := range []int{3, 4, 8, 9, 26, 27, 1000} {
		env := make([]int64, n)
		env[1], env[2] = 5, -5
		checkGuard(t, "a<b", env, true, false)
		checkGuard(t, "b<=c", env, false, false)
		checkGuard(t, "b/a==1", env, false, true)
	}
}

// A Guard with an error is not true, and a mishap.

func TestReadyWithMishap(t *testing.T) {
	for _, one := range []struct {
		guard string
		env   []int64
	}{
		{"a==a", nil},
		{"a==a", []int64{}},
		{"a<b", []int64{1}},
		{"c==c", []int64{1, 2}},
		{"a==1 or b==1", []int64{1}},
		{"true or c==1", []int64{1, 2}},
		{"not c==1", nil},
		{"a/b==1", []int64{1, 0}},
		{"a%b==0", []int64{1, 0}},
		{"not a/b==1", []int64{0, 0}},
		{"1/0==1", []int64{1, 2, 3}},
		{"1/0!=1", []int64{1, 2, 3}},
		{"1%0==0 or true", nil},
		{"true or 1/0==1", nil},
		{"false and 1/0==1", nil},
		{"a/(b-c)<1", []int64{1, 4, 4}},
		{broken, nil},
	} {
		checkGuard(t, one.guard, one.env, false, true)
	}
}

// The same Guard is true, false or a mishap as the variables are.

func TestReadyHangsOnTheVariables(t *testing.T) {
	one := planted(t, drawn(smallest, when(1, "6/a<b")))
	for range 2 {
		checkReady(t, one, []int64{3, 3}, 0, 7, true, false)
		checkReady(t, one, []int64{3, 2}, 0, 7, false, false)
		checkReady(t, one, []int64{0, 3}, 0, 7, false, true)
		checkReady(t, one, []int64{3}, 0, 7, false, true)
	}
}

// A Guard that is a number, or whose types don't fit, is no chart's: there is no
// tree with it, and without one nothing is ready, and no mishap.

func TestGuardsThatAreNoTruth(t *testing.T) {
	for _, guard := range []string{
		"1", "0", "a", "a+b", "-1", "(a)", "a and true", "1 or true", "not a", "not 1", "1<true", "true<=false",
		"a==true", "true!=0", "true+1==2", "-true==1", "d==d", "a<b<c", "a==", "(", " ", "tru", "a=b", strings.Repeat(" ", 201) + "true",
	} {
		one, err := tree.New(drawn(nest, when(5, guard)))
		var spot *api.Spot
		if !errors.As(err, &spot) || spot.Err != api.ErrType || spot.At != 23 || one != nil {
			t.Errorf("New with Guard %q = %v, %v", guard, one, err)
		}
		checkReady(t, one, []int64{1, 2, 3}, 0, 7, false, false)
		checkGatherFor(t, one, full, []int64{1, 2, 3}, 7, 0)
		checkSift(t, one, full, []int{0})
	}
}

// What it is from and to, and what it does, doesn't change whether it is ready.

func TestReadyHangsOnNothingElse(t *testing.T) {
	acts := []api.Act{{Kind: api.Assign, Expr: "1/0"}, {Kind: api.Raise, N: 8}}
	c := drawn(nest, when(1, "a<b"), when(21, "a<b"), when(14, "a<b"), when(3, "a<b"), when(2, "a<b"))
	c.Trans[0].Targets, c.Trans[1].Targets, c.Trans[2].Targets = []int{1}, []int{6, 11, 17}, []int{19}
	c.Trans[2].Internal, c.Trans[3].Acts, c.Trans[4].Internal, c.Trans[4].Acts = true, acts, true, acts
	one := planted(t, c)
	for i := range c.Trans {
		checkReady(t, one, []int64{1, 2}, i, 7, true, false)
		checkReady(t, one, []int64{2, 1}, i, 7, false, false)
		checkReady(t, one, []int64{1}, i, 7, false, true)
		checkReady(t, one, []int64{1, 2}, i, 8, false, false)
	}
}
