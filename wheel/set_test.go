package wheel_test

import (
	"math"
	"testing"

	"spinet/api"
	"spinet/wheel"
)

// The chapter's example.

func TestExample(t *testing.T) {
	w := made(t, timers(5, 1), timers(4, 2))
	checkTick(t, w, 5, timer(2, 4), timer(1, 5))
	checkStands(t, w, 5, 0)
}

// P17.1: a new wheel's clock is 0, and nothing is set.

func TestNew(t *testing.T) {
	w := wheel.New()
	checkStands(t, w, 0, 0)
	checkCancel(t, w, 0, false)
	checkStands(t, w, 0, 0)
	checkTick(t, w, 0)
	checkHas(t, w)
}

// R2: no two wheels have anything in common.

func TestWheelsAreApart(t *testing.T) {
	a, b := made(t, timers(5, 1, 2)), made(t, timers(5, 3))
	checkStands(t, a, 0, 2)
	checkStands(t, b, 0, 1)
	checkTick(t, a, 3)
	checkStands(t, b, 0, 1)
	checkCancel(t, b, 1, false)
	checkSet(t, b, timer(1, 2), nil)
	checkCancel(t, a, 3, false)
	checkHas(t, a, timers(5, 1, 2))
	checkHas(t, b, timers(2, 1), timers(5, 3))
}

// ids are such that may be: any number.
func ids() []int {
	return []int{0, 1, -1, 2, -2, 63, 64, 1000, 1 << 30, 1<<30 + 1, -1 << 31, 1 << 32, -1 << 32, math.MaxInt, math.MinInt, math.MaxInt - 1, math.MinInt + 1}
}

// P17.1: whatever the Id and What are, it is set, and told as it was set.

func TestSetOfAnyIdAndWhat(t *testing.T) {
	w := wheel.New()
	whats := []int{0, -1, math.MinInt, math.MaxInt, 7, 7, 1 << 32}
	var want []api.Timer
	for i, id := range ids() {
		one := api.Timer{Id: id, At: 1 + i/3, What: whats[i%len(whats)]}
		want = append(want, one)
		checkSet(t, w, one, nil)
		checkStands(t, w, 0, i+1)
	}
	checkHas(t, w, want)
}

// P17.1: an At is above the clock, and MaxTick at most; else ErrArg, and nothing
// changes.

func TestSetAt(t *testing.T) {
	for _, now := range []int{0, 1, 5, 63, 64, 65, 1000, api.MaxTick - 65, api.MaxTick - 1, api.MaxTick} {
		w := madeAt(t, now)
		for _, at := range []int{now, now - 1, now - 64, now - 1000, 0, -1, -2, -64, -api.MaxTick, math.MinInt32, math.MinInt, math.MinInt + 1,
			api.MaxTick + 1, api.MaxTick + 2, api.MaxTick + 64, 2 * api.MaxTick, 1 << 32, 1<<32 + now + 1, math.MaxInt} {
			checkSet(t, w, timer(1, at), api.ErrArg)
			checkStands(t, w, now, 0)
			checkCancel(t, w, 1, false)
		}
		var want []api.Timer
		for id, at := range []int{now + 1, now + 2, now + 63, now + 64, now + 65, api.MaxTick - 1, api.MaxTick} {
			if at <= now || at > api.MaxTick || len(want) > 0 && at < want[len(want)-1].At {
				continue
			}
			want = append(want, timer(id, at))
			checkSet(t, w, timer(id, at), nil)
		}
		checkHas(t, w, want)
	}
}

// P17.1: of an Id that is set ErrTwice is named first, whatever its At is, and What;
// the one that was set stays as it was.

func TestSetTwice(t *testing.T) {
	for _, id := range ids() {
		w := madeAt(t, 5, timers(9, id))
		for _, at := range []int{9, 10, 8, 6, 9 + 64, 5, 4, 0, -1, math.MinInt, api.MaxTick, api.MaxTick + 1, math.MaxInt} {
			checkSet(t, w, timer(id, at), api.ErrTwice)
			checkSet(t, w, api.Timer{Id: id, At: at}, api.ErrTwice)
			checkStands(t, w, 5, 1)
		}
		checkTick(t, w, 8)
		checkSet(t, w, timer(id, 10), api.ErrTwice)
		checkTick(t, w, 9, timer(id, 9))
		checkHas(t, w)
	}
}

// P17.1: 50 may be set, however they are spread; the 51st is ErrFull, and changes
// nothing. ErrTwice is named first, then ErrArg.

func TestSetOfAFullWheel(t *testing.T) {
	for _, apart := range []int{0, 1, 2, 63, 64, 65, 128, 1 << 20} {
		for _, now := range []int{0, 7} {
			w := madeAt(t, now)
			var want []api.Timer
			for _, id := range upTo(50) {
				one := timer(id, now+1+(id-1)*apart)
				want = append(want, one)
				checkSet(t, w, one, nil)
				checkStands(t, w, now, id)
			}
			for _, id := range []int{0, 51, -1, math.MaxInt, math.MinInt} {
				for _, at := range []int{now + 1, now + 2, now + 64, api.MaxTick} {
					checkSet(t, w, timer(id, at), api.ErrFull)
				}
				for _, at := range []int{now, now - 1, -1, api.MaxTick + 1, math.MaxInt, math.MinInt} {
					checkSet(t, w, timer(id, at), api.ErrArg)
				}
			}
			for _, id := range upTo(50) {
				for _, at := range []int{now + 1, now, now - 1, -1, api.MaxTick + 1, math.MinInt} {
					checkSet(t, w, timer(id, at), api.ErrTwice)
				}
			}
			checkStands(t, w, now, 50)
			checkHas(t, w, want)
		}
	}
}

// P17.1: where one is cancelled, or told, there is room again: for one, for as many
// as were told.

func TestRoomComesBack(t *testing.T) {
	w := made(t, timers(9, upTo(47)...), timers(3, 48, 49), timers(4, 50))
	checkSet(t, w, timer(51, 9), api.ErrFull)
	checkCancel(t, w, 48, true)
	checkSet(t, w, timer(51, 9), nil)
	checkSet(t, w, timer(52, 9), api.ErrFull)
	checkTick(t, w, 2)
	checkSet(t, w, timer(52, 9), api.ErrFull)
	checkTick(t, w, 4, timer(49, 3), timer(50, 4))
	checkStands(t, w, 4, 48)
	checkSet(t, w, timer(48, 9), nil)
	checkSet(t, w, timer(52, 9), nil)
	checkSet(t, w, timer(50, 9), api.ErrFull)
	checkHas(t, w, timers(9, upTo(47)...), timers(9, 51, 48, 52))
}

// P17.1: an Id that was told, or cancelled, may be set again, at the same tick, where
// that is above the clock, or at any other.

func TestSetAgain(t *testing.T) {
	for _, id := range ids() {
		w := made(t, timers(5, id))
		for _, at := range []int{5, 6, 5, 69, 133, api.MaxTick, 5} {
			checkCancel(t, w, id, true)
			checkSet(t, w, timer(id, at), nil)
			checkSet(t, w, timer(id, at+1), api.ErrTwice)
			checkStands(t, w, 0, 1)
		}
		checkTick(t, w, 5, timer(id, 5))
		checkSet(t, w, timer(id, 5), api.ErrArg)
		checkStands(t, w, 5, 0)
		for _, at := range []int{6, 7, 7 + 64, 7 + 65, 7 + 65 + 128, 1000} {
			checkSet(t, w, timer(id, at), nil)
			checkStands(t, w, w.Now(), 1)
			checkTick(t, w, at-1)
			checkTick(t, w, at, timer(id, at))
			checkStands(t, w, at, 0)
		}
		checkHas(t, w)
	}
}
