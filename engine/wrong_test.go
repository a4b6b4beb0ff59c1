package engine_test

import (
	"math"
	"reflect"
	"slices"
	"testing"

	"spinet/api"
	"spinet/engine"
)

// P15.1: of a nil table nothing is told, all zero, however a session stands.

func TestNilTable(t *testing.T) {
	for range 2 {
		checkSame(t, "start of none", started(twin{}), session{})
		for _, r := range slices.Concat(anything(), runs()) {
			for _, event := range events() {
				told, outs := engine.Take(nil, r, event)
				if !reflect.DeepEqual(told, api.Run{}) || outs != nil {
					t.Errorf("event %d of %v told %v, %v", event, r, told, outs)
				}
			}
		}
	}
}

// anything are sessions that stand as none would.
func anything() []api.Run {
	return []api.Run{
		{},
		{Conf: full, Status: api.Going},
		{Conf: 1<<31 | 1, Hist: []uint32{}, Env: []int64{}, Inner: []int{}, Status: math.MinInt},
		{Conf: set(3, 4), Hist: []uint32{full}, Env: []int64{math.MinInt64}, Inner: []int{math.MinInt, math.MaxInt}, Status: api.Going},
		{Conf: set(3, 4), Hist: []uint32{full}, Env: []int64{math.MinInt64}, Inner: []int{math.MinInt, math.MaxInt}, Status: api.Ended},
		{Conf: 1 << 24, Hist: make([]uint32, 99), Env: make([]int64, 99), Inner: make([]int, 99), Status: 77},
		{Conf: 1<<24 | 2, Hist: make([]uint32, 99), Env: make([]int64, 99), Inner: make([]int, 99), Status: api.Going},
		{Conf: 1<<24 - 1, Hist: make([]uint32, 99), Env: make([]int64, 99), Inner: sevens(50), Status: api.Going},
		{Hist: allFull(24), Env: []int64{0, 0, 0}, Inner: []int{done(0), done(99)}, Status: api.Failed},
		{Conf: 1<<24 - 1, Hist: allFull(24), Inner: sevens(19), Status: api.Going},
		{Conf: full, Hist: allFull(40), Env: []int64{1, math.MaxInt64}, Inner: sevens(20), Status: api.Going},
		{Conf: full, Hist: allFull(40), Env: []int64{1, math.MaxInt64}, Inner: sevens(21), Status: api.Going},
		{Conf: full, Hist: allFull(40), Env: []int64{1, math.MaxInt64}, Status: math.MaxInt},
	}
}

// P1: however much is inside, it ends.

func TestTakeWithMuchInside(t *testing.T) {
	one := quietly(t, "C(A)", does(on(7, 1), assign(0, "a+1")))
	s := standing(one, set(0, 1)).inside(sevens(1 << 17)...)
	checkTake(t, one, s, 7, s.with(1, 0, 0).as(api.Failed))
	checkTake(t, one, s, 9, s.as(api.Failed))
}

func allFull(n int) []uint32 { return slices.Repeat([]uint32{full}, n) }

// P1: no session, and no event, is such that it panics, or doesn't end: not where
// histories have sets that none would have, either. What is told then the chapter
// leaves open: it is what layer 13 tells.

func TestTakeOfAnything(t *testing.T) {
	histories := loud(drawn("C(C(A S S D D) A)", on(7, 7, 3), on(7, 2, 4), does(on(0, 7, 5), raise(7)), on(0, 2, 6)))
	everywhere := loud(drawn(nest, on(7, 5, 7), on(7, 1, 13, 19), does(on(0, 21, 7, 13), raise(9)), on(9, 14, 19), when(broken, on(7, 3)), on(api.EventError, 3, 20)))
	for _, c := range []api.Chart{
		loud(drawn(smallest, on(7, 1, 1))), histories, everywhere, greatest(mixed()), greatest(flat()), greatest(wide()), crowded(23, on(7, 1, 1), on(0, 23, 22)),
	} {
		one := made(t, c)
		checkStartByWalk(t, one, reading{c})
		for _, r := range anything() {
			for _, event := range events() {
				checkTakeByWalk(t, one, reading{c}, r, event)
			}
		}
	}
}
