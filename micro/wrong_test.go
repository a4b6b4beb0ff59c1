package micro_test

import (
	"math"
	"testing"

	"spinet/api"
	"spinet/micro"
)

// P12.1: of a nil tree there is nothing, and all is zero, whatever else is handed
// in.

func isNothing(r api.Run, outs []api.Out) bool {
	return r.Conf == 0 && len(r.Hist) == 0 && len(r.Env) == 0 && len(r.Inner) == 0 && r.Status == 0 && len(outs) == 0
}

func TestNilTree(t *testing.T) {
	if r := micro.Begin(nil); !isNothing(r, nil) {
		t.Errorf("Begin(nil) = %v", r)
	}
	if r, outs := micro.First(nil); !isNothing(r, outs) {
		t.Errorf("First(nil) = %v, %v", r, outs)
	}
	for _, r := range anything() {
		for _, l := range [][]int{nil, {}, {0}, {0, 1, 2}, nowhere(0)} {
			if told, outs := micro.Step(nil, r, l); !isNothing(told, outs) {
				t.Errorf("Step(nil, %v, %v) = %v, %v", r, l, told, outs)
			}
		}
	}
}

// anything are sessions that stand as none would.
func anything() []api.Run {
	return []api.Run{
		{},
		{Conf: full, Status: api.Going},
		{Conf: 1<<31 | 1, Hist: []uint32{}, Env: []int64{}, Inner: []int{}, Status: math.MinInt},
		{Conf: set(3, 4), Hist: []uint32{full}, Env: []int64{math.MinInt64}, Inner: []int{math.MinInt, math.MaxInt}, Status: api.Ended},
		{Conf: 1 << 24, Hist: make([]uint32, 99), Env: make([]int64, 99), Inner: make([]int, 99), Status: 77},
		{Hist: allFull(24), Env: []int64{0, 0, 0}, Inner: []int{done(0), done(99)}, Status: api.Failed},
		{Conf: full, Hist: allFull(40), Env: []int64{1, math.MaxInt64}, Status: math.MaxInt},
	}
}

func allFull(n int) []uint32 {
	hist := make([]uint32, n)
	for i := range hist {
		hist[i] = full
	}
	return hist
}

// P1: no session, and no list, is such that a step panics, or doesn't end: not
// where histories have sets that none would have, either.

func TestStepOfAnything(t *testing.T) {
	charts := []api.Chart{
		loud(drawn(smallest, to(1, 1))),
		loud(drawn(nest, to(5, 7), to(1, 13, 19), to(2, 20), to(21, 7, 13), within(2, 20), to(14, 19), from(3))),
		loud(drawn(past, to(2, 7), to(2, 8), to(9, 18), to(10, 19), to(1, 7), to(1, 19), within(9, 18))),
		loud(drawn(ends, to(5, 6), to(8, 9), to(3, 11), to(1, 10), to(2, 13))),
		loud(drawn("C(C(A S S D D) A)", to(7, 3), to(7, 4), to(7, 5), to(1, 6))),
		greatest(mixed()), greatest(flat()),
	}
	for _, c := range charts {
		one := planted(t, c)
		for _, r := range anything() {
			for i := range c.Trans {
				micro.Step(one, r, []int{i})
			}
			for _, l := range [][]int{nil, {0, 0}, {-1, 1, 0, 99, 3, 2, 5, 4, 6, 1}, nowhere(len(c.Trans))} {
				micro.Step(one, r, l)
			}
		}
	}
}

// A history with itself in its set, or with one that has it, comes to an end, too.

func TestHistoriesInRings(t *testing.T) {
	one := loudly(t, "C(C(A S S D D) A)", to(7, 3), to(7, 4), to(7, 5), to(7, 6))
	for i, h := range []int{3, 4, 5, 6} {
		for _, of := range [][]uint32{
			{3: set(3), 4: set(4), 5: set(5), 6: set(6)},
			{3: set(4), 4: set(3), 5: set(6), 6: set(5)},
			{3: set(4), 4: set(5), 5: set(6), 6: set(3)},
			{3: full, 4: full, 5: full, 6: full},
		} {
			s := standing(one, set(0, 7)).histories(of...).stepped(one, i)
			if of[h] != full && s.Conf&set(7) != 0 {
				t.Errorf("to %d with sets %v: active is %v", h, of, members(s.Conf))
			}
		}
	}
}
