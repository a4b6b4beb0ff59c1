package macro_test

import (
	"math"
	"slices"
	"testing"

	"spinet/api"
	"spinet/macro"
)

// P13.1: of a nil tree micro.First is nothing, and all zero: so is a Start.

func TestStartOfNilTree(t *testing.T) {
	r, outs := macro.Start(nil)
	if got := (session{r, outs}); !got.equals(session{}) {
		t.Errorf("Start(nil) = %v", got)
	}
}

// A nil tree has no transitions: a session that isn't Going is told as it is, and
// of one that is what is inside is taken out.

func TestTakeOfNilTree(t *testing.T) {
	for _, r := range anything() {
		for _, event := range events() {
			want := session{Run: r}
			if r.Status == api.Going {
				want = ofNoTree(want)
			}
			checkSame(t, "of no tree", session{Run: r}.taken(nil, event), want)
		}
	}
}

func ofNoTree(s session) session {
	switch n := len(s.Inner); {
	case n > api.MaxInner:
		s.Status = api.Failed
	case n > 19:
		s.Inner, s.Status = s.Inner[20:], api.Failed
	default:
		s.Inner = nil
	}
	return s
}

// anything are sessions that stand as none would.
func anything() []api.Run {
	return []api.Run{
		{},
		{Conf: full, Status: api.Going},
		{Conf: 1<<31 | 1, Hist: []uint32{}, Env: []int64{}, Inner: []int{}, Status: math.MinInt},
		{Conf: set(3, 4), Hist: []uint32{full}, Env: []int64{math.MinInt64}, Inner: []int{math.MinInt, math.MaxInt}, Status: api.Going},
		{Conf: set(3, 4), Hist: []uint32{full}, Env: []int64{math.MinInt64}, Inner: []int{math.MinInt, math.MaxInt}, Status: api.Ended},
		{Conf: 1 << 24, Hist: make([]uint32, 99), Env: make([]int64, 99), Inner: make([]int, 99), Status: 77},
		{Conf: 1<<24 | 2, Hist: make([]uint32, 99), Env: make([]int64, 99), Inner: make([]int, 99), Status: api.Going},
		{Conf: 1<<24 - 1, Hist: make([]uint32, 99), Env: make([]int64, 99), Inner: sevens(50), Status: api.Going},
		{Hist: allFull(24), Env: []int64{0, 0, 0}, Inner: []int{done(0), done(99)}, Status: api.Failed},
		{Conf: 1<<24 - 1, Hist: allFull(24), Inner: sevens(19), Status: api.Going},
		{Conf: full, Hist: allFull(40), Env: []int64{1, math.MaxInt64}, Inner: sevens(20), Status: api.Going},
		{Conf: full, Hist: allFull(40), Env: []int64{1, math.MaxInt64}, Inner: sevens(21), Status: api.Going},
		{Conf: full, Hist: allFull(40), Env: []int64{1, math.MaxInt64}, Status: math.MaxInt},
	}
}

func allFull(n int) []uint32 { return slices.Repeat([]uint32{full}, n) }

// P1: no session, and no event, is such that it panics, or doesn't end: not where
// histories have sets that none would have, either.

func TestTakeOfAnything(t *testing.T) {
	histories := loud(drawn("C(C(A S S D D) A)", on(7, 7, 3), on(7, 2, 4), does(on(0, 7, 5), raise(7)), on(0, 2, 6)))
	everywhere := loud(drawn(nest, on(7, 5, 7), on(7, 1, 13, 19), does(on(0, 21, 7, 13), raise(9)), on(9, 14, 19), when(broken, on(7, 3)), on(api.EventError, 3, 20)))
	for _, c := range []api.Chart{
		loud(drawn(smallest, on(7, 1, 1))), histories, everywhere, greatest(mixed()), greatest(flat()), greatest(wide()), crowded(23, on(7, 1, 1), on(0, 23, 22)),
	} {
		one := planted(t, c)
		macro.Start(one)
		for _, r := range anything() {
			for _, event := range events() {
				told, _ := macro.Take(one, r, event)
				if told.Status == api.Going && len(told.Inner) > 0 {
					t.Errorf("Going with %v inside", told.Inner)
				}
			}
		}
	}
}
