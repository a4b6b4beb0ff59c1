package wheel_test

import (
	"slices"
	"testing"

	"spinet/api"
	"spinet/wheel"
)

// timer is one with a What that tells which one it is.
func timer(id, at int) api.Timer { return api.Timer{Id: id, At: at, What: 3*at - 7*id} }

// timers are those of these Ids at one tick.
func timers(at int, ids ...int) []api.Timer {
	var l []api.Timer
	for _, id := range ids {
		l = append(l, timer(id, at))
	}
	return l
}

// upTo are n Ids, from 1 on.
func upTo(n int) []int {
	var l []int
	for id := range n {
		l = append(l, id+1)
	}
	return l
}

// made is a new wheel on which these are set, in their order.
func made(t *testing.T, l ...[]api.Timer) *wheel.Wheel {
	t.Helper()
	return madeAt(t, 0, l...)
}

// madeAt is likewise, but its clock is at now ahead of that.
func madeAt(t *testing.T, now int, l ...[]api.Timer) *wheel.Wheel {
	t.Helper()
	w := wheel.New()
	if w == nil {
		t.Fatal("New() = nil")
	}
	checkTick(t, w, now)
	checkSetAll(t, w, l...)
	return w
}

// checkSetAll sets all of these, in their order.
func checkSetAll(t *testing.T, w *wheel.Wheel, l ...[]api.Timer) {
	t.Helper()
	for _, one := range slices.Concat(l...) {
		checkSet(t, w, one, nil)
	}
}

// checkSet asks for an error, if want isn't nil, that is the Code itself.
func checkSet(t *testing.T, w *wheel.Wheel, one api.Timer, want error) {
	t.Helper()
	if err := w.Set(one.Id, one.At, one.What); err != want {
		t.Errorf("Set%v: %v, want %v", one, err, want)
	}
}

func checkCancel(t *testing.T, w *wheel.Wheel, id int, want bool) {
	t.Helper()
	if ok := w.Cancel(id); ok != want {
		t.Errorf("Cancel(%d) = %v, want %v", id, ok, want)
	}
}

func checkTick(t *testing.T, w *wheel.Wheel, now int, want ...api.Timer) {
	t.Helper()
	if l, err := w.Tick(now); err != nil || !slices.Equal(l, want) {
		t.Errorf("Tick(%d) = %v, %v, want %v", now, l, err, want)
	}
	if got := w.Now(); got != now {
		t.Errorf("Now() = %d behind Tick(%d)", got, now)
	}
}

func checkNoTick(t *testing.T, w *wheel.Wheel, now int) {
	t.Helper()
	if l, err := w.Tick(now); len(l) > 0 || err != error(api.ErrArg) {
		t.Errorf("Tick(%d) = %v, %v, want none, ErrArg", now, l, err)
	}
}

// checkStands asks how a wheel stands: its clock, and how many are set.
func checkStands(t *testing.T, w *wheel.Wheel, now, size int) {
	t.Helper()
	if got := w.Now(); got != now {
		t.Errorf("Now() = %d, want %d", got, now)
	}
	if got := w.Len(); got != size {
		t.Errorf("Len() = %d, want %d", got, size)
	}
}

// checkHas asks for all that is set, in the order in which it is told. Behind it
// nothing is set any more, and the clock is as far as it goes.
func checkHas(t *testing.T, w *wheel.Wheel, l ...[]api.Timer) {
	t.Helper()
	want := slices.Concat(l...)
	checkStands(t, w, w.Now(), len(want))
	checkTick(t, w, api.MaxTick, want...)
	checkStands(t, w, api.MaxTick, 0)
}
