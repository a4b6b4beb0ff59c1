package wheel_test

import (
	"slices"
	"testing"

	"spinet/api"
	"spinet/wheel"
)

// R2: what Tick tells is new memory: what is done with it doesn't change the wheel,
// nor what the wheel does later changes it.

// spoil changes all that was told, and what its memory has room for behind it.
func spoil(l []api.Timer) {
	l = l[:cap(l)]
	for i := range l {
		l[i] = api.Timer{Id: -1 - i, At: 1, What: -1}
	}
}

func mustTick(t *testing.T, w *wheel.Wheel, now int) []api.Timer {
	t.Helper()
	l, err := w.Tick(now)
	if err != nil {
		t.Fatalf("Tick(%d): %v", now, err)
	}
	return l
}

func TestSpoiltAnswersChangeNoWheel(t *testing.T) {
	for turn := 1; turn <= mostFar; turn++ {
		for size := 1; size <= 5; size++ {
			var late, early []int
			for id := range size {
				late, early = append(late, id), append(early, 100+id)
			}
			due := 3 + turn
			w := made(t, timers(due, late[:1]...), timers(3, early...), timers(due, late[1:]...))
			spoil(mustTick(t, w, 3))
			checkStands(t, w, 3, size)
			checkSetAll(t, w, timers(due, early...))
			checkCancel(t, w, -1, false)
			spoil(mustTick(t, w, due-1))
			checkHas(t, w, timers(due, late...), timers(due, early...))
		}
	}
}

func TestAnswersStayAsTheyAre(t *testing.T) {
	for turn := 1; turn <= mostFar; turn++ {
		for size := 1; size <= 5; size++ {
			w := wheel.New()
			var told, want [][]api.Timer
			for k := range 4 {
				at := 1 + k*turn
				l := timers(at, upTo(size)...)
				checkSetAll(t, w, l, timers(at+turn, 50+k))
				want = append(want, append(timers(at, 49+k)[:min(k, 1)], l...))
				told = append(told, mustTick(t, w, at))
				checkCancel(t, w, 50+k, true)
				checkSet(t, w, timer(50+k, at+turn), nil)
			}
			for k := range told {
				if !slices.Equal(told[k], want[k]) {
					t.Errorf("turn %d: Tick %d told %v, want %v", turn, k, told[k], want[k])
				}
			}
		}
	}
}

// No two answers share memory.

func TestAnswersAreApart(t *testing.T) {
	w := made(t, timers(1, 1, 2), timers(2, 3, 4), timers(65, 5, 6), timers(66, 7))
	l := [][]api.Timer{mustTick(t, w, 1), mustTick(t, w, 2), mustTick(t, w, 65), mustTick(t, w, 66)}
	want := [][]api.Timer{timers(1, 1, 2), timers(2, 3, 4), timers(65, 5, 6), timers(66, 7)}
	for i := range l {
		for k := i; k < len(l); k++ {
			if !slices.Equal(l[k], want[k]) {
				t.Errorf("answer %d is %v, want %v", k, l[k], want[k])
			}
		}
		spoil(l[i])
	}
}

// R3: with an error nothing else is told, though something were due.

func TestNothingBesideAnError(t *testing.T) {
	w := madeAt(t, 5, timers(9, 1), timers(api.MaxTick, 2))
	checkNoTick(t, w, 4)
	checkNoTick(t, w, api.MaxTick+1)
	checkHas(t, w, timers(9, 1), timers(api.MaxTick, 2))
}
