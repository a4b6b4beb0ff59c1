package leave_test

import (
	"reflect"
	"slices"
	"testing"

	"spinet/api"
	"spinet/leave"
	"spinet/tree"
)

// askAll calls all there is, of each transition, of each pair, and of some that
// aren't there.
func askAll(one *tree.Tree, n int) {
	for i := -1; i <= n; i++ {
		leave.Reach(one, i)
		for _, of := range []uint32{0, 1, 0x5a5a5a, full} {
			leave.Set(one, of, i)
			for k := -1; k <= n; k++ {
				leave.Clash(one, of, i, k)
			}
		}
	}
}

// P9.2, R2: the tree stays as it was: its chart, and all that it tells.

func TestWhatIsHandedInStays(t *testing.T) {
	for _, c := range []api.Chart{drawn(nest, regions()...), drawn(rich, histories()...), drawn(smallest, to(1, 1))} {
		one, other := planted(t, c), planted(t, c)
		was := one.Chart()
		askAll(one, len(c.Trans))
		if !reflect.DeepEqual(one.Chart(), was) {
			t.Errorf("the tree's chart became %v, was %v", one.Chart(), was)
		}
		if !reflect.DeepEqual(one, other) {
			t.Errorf("the tree became %v, was %v", one, other)
		}
	}
}

// histories are transitions of rich that go to histories.
func histories() []api.Trans {
	return []api.Trans{to(6, 8), within(2, 8), within(5, 8), to(17, 19, 21), within(12, 19), to(1, 20), to(1, 3), within(16, 19)}
}

// Nor is the chart changed that the tree was made of; and as that may be changed,
// nothing of it is kept.

func TestTheChartStays(t *testing.T) {
	handed, was := drawn(rich, histories()...), drawn(rich, histories()...)
	for i := range handed.Trans {
		handed.Trans[i].Targets = slices.Grow(handed.Trans[i].Targets, 5)
	}
	one := planted(t, handed)
	askAll(one, len(handed.Trans))
	for i := range handed.Trans {
		if l := handed.Trans[i].Targets; !slices.Equal(l, was.Trans[i].Targets) || slices.Max(l[len(l):cap(l)]) != 0 {
			t.Errorf("targets became %v", l[:cap(l)])
		}
	}
	for range 2 {
		for i, want := range []int{2, 2, 2, 0, 12, 0, 0, 12} {
			checkReach(t, one, i, want)
			handed.Trans[i] = to(22, 22)
		}
	}
}

// Nothing is kept: each call tells of its own tree, set and transition.

func TestNothingIsKept(t *testing.T) {
	one, other := planted(t, drawn(rich, to(6, 7), to(1, 22))), planted(t, drawn(nest, to(5, 6), to(17, 18)))
	for range 3 {
		checkReach(t, one, 0, 5)
		checkReach(t, other, 0, 4)
		checkReach(t, nil, 0, -1)
		checkReach(t, one, 1, 0)
		checkReach(t, other, 1, 16)
		checkSet(t, one, full, 0, 6, 7, 8)
		checkSet(t, one, set(6), 0, 6)
		checkSet(t, other, full, 0, 5, 6, 7)
		checkSet(t, one, 0, 0)
		checkClash(t, one, full, 0, 1, true)
		checkClash(t, other, full, 0, 1, false)
		checkClash(t, one, set(0, 5), 0, 1, false)
	}
}

// Calls beside each other, with one tree, tell what they tell alone.

func TestCallsBesideEachOther(t *testing.T) {
	one := planted(t, drawn(rich, histories()...))
	done := make(chan bool)
	ask := func() {
		ok := true
		for range 200 {
			ok = ok && leave.Reach(one, 4) == 12 && leave.Reach(one, 0) == 2
			ok = ok && leave.Set(one, set(0, 13, 14, 21), 4) == set(13, 14)
			ok = ok && leave.Clash(one, full, 4, 3) && !leave.Clash(one, full, 4, 1)
		}
		done <- ok
	}
	for range 4 {
		go ask()
	}
	for range 4 {
		if !<-done {
			t.Error("told something else")
		}
	}
}
