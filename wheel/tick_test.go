package wheel_test

import (
	"math"
	"testing"

	"spinet/api"
)

// P17.2: the clock goes to what Tick is asked for, be that where it is, the next
// tick, or any later one up to MaxTick; where nothing is due, nothing is told.

func TestTickOfNothing(t *testing.T) {
	w := made(t)
	for _, now := range []int{0, 0, 1, 2, 2, 63, 64, 65, 65, 300, 1 << 20, api.MaxTick - 1, api.MaxTick - 1, api.MaxTick, api.MaxTick} {
		checkTick(t, w, now)
		checkStands(t, w, now, 0)
	}
}

// P17.2: below the clock, or above MaxTick, it is ErrArg: neither the clock nor what
// is set changes.

func TestTickOutOfRange(t *testing.T) {
	for _, now := range []int{0, 1, 2, 63, 64, 65, 1000, api.MaxTick - 1, api.MaxTick} {
		w := madeAt(t, now)
		size := 0
		for id, far := range []int{1, 2, 64, 65, 1 << 20} {
			if now+far <= api.MaxTick {
				checkSet(t, w, timer(id, now+far), nil)
				size++
			}
		}
		for _, wrong := range []int{now - 1, now - 2, now - 64, now - 1001, -1, -64, -api.MaxTick, math.MinInt32, math.MinInt, math.MinInt + 1,
			api.MaxTick + 1, api.MaxTick + 2, api.MaxTick + 64, 2 * api.MaxTick, 1 << 32, 1<<32 + now, math.MaxInt - 1, math.MaxInt} {
			checkNoTick(t, w, wrong)
			checkStands(t, w, now, size)
		}
		checkTick(t, w, now)
		for id, far := range []int{1, 2, 64, 65, 1 << 20} {
			if now+far <= api.MaxTick {
				checkTick(t, w, now+far, timer(id, now+far))
			}
		}
		checkHas(t, w)
	}
}

// P17.2: one is told at its At, as at any later tick, but at none ahead of it.

func TestTickAround(t *testing.T) {
	for _, at := range []int{1, 2, 5, 63, 64, 65, 127, 128, 129, 1000, 1 << 20, api.MaxTick - 1, api.MaxTick} {
		w := made(t, timers(at, 1))
		checkTick(t, w, at-1)
		checkStands(t, w, at-1, 1)
		checkTick(t, w, at-1)
		checkTick(t, w, at, timer(1, at))
		checkStands(t, w, at, 0)
		checkTick(t, w, at)
		checkHas(t, w)

		for _, far := range []int{1, 2, 63, 64, 65, 200} {
			if at+far <= api.MaxTick {
				w = made(t, timers(at, 1))
				checkTick(t, w, at+far, timer(1, at))
				checkStands(t, w, at+far, 0)
				checkHas(t, w)
			}
		}
	}
}

// P17.2: at MaxTick nothing more may be set; all that was is told there at last.

func TestTickToTheEnd(t *testing.T) {
	w := made(t, timers(api.MaxTick, 1, 2), timers(api.MaxTick-1, 3), timers(1, 4))
	checkTick(t, w, api.MaxTick, timer(4, 1), timer(3, api.MaxTick-1), timer(1, api.MaxTick), timer(2, api.MaxTick))
	checkStands(t, w, api.MaxTick, 0)
	for _, at := range []int{api.MaxTick, api.MaxTick + 1, 1} {
		checkSet(t, w, timer(1, at), api.ErrArg)
	}
	checkNoTick(t, w, api.MaxTick-1)
	checkNoTick(t, w, api.MaxTick+1)
	checkTick(t, w, api.MaxTick)
	checkStands(t, w, api.MaxTick, 0)
}

// P17.2: those that are told aren't set any more, the others are.

func TestTickOfSome(t *testing.T) {
	w := made(t, timers(7, 1), timers(3, 2), timers(5, 3), timers(3, 4), timers(9, 5))
	checkTick(t, w, 2)
	checkStands(t, w, 2, 5)
	checkTick(t, w, 5, timer(2, 3), timer(4, 3), timer(3, 5))
	checkStands(t, w, 5, 2)
	for _, id := range []int{2, 4, 3} {
		checkCancel(t, w, id, false)
	}
	checkSet(t, w, timer(1, 6), api.ErrTwice)
	checkTick(t, w, 5)
	checkTick(t, w, 6)
	checkCancel(t, w, 5, true)
	checkTick(t, w, 9, timer(1, 7))
	checkHas(t, w)
}

// P17.2: so it goes on behind errors, and behind timers that were told.

func TestManyTicks(t *testing.T) {
	w := made(t)
	for now := range 1000 {
		checkSet(t, w, timer(now, now+3), nil)
		checkSet(t, w, timer(-now-1, now+1), nil)
		checkSet(t, w, timer(now, now+1), api.ErrTwice)
		checkSet(t, w, timer(-7000, now), api.ErrArg)
		checkNoTick(t, w, now-1)
		checkStands(t, w, now, min(now, 2)+2)
		want := timers(now+1, now-2, -now-1)
		if now < 2 {
			want = want[1:]
		}
		checkTick(t, w, now+1, want...)
	}
	checkHas(t, w, timers(1001, 998), timers(1002, 999))
}
