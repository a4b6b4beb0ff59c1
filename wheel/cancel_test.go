package wheel_test

import (
	"math"
	"testing"

	"spinet/api"
	"spinet/wheel"
)

// P17.1: of one that is set Cancel tells true, and it isn't set any more; then, and
// of any that isn't set, it tells false, and nothing changes.

func TestCancel(t *testing.T) {
	w := made(t, timers(5, 1, 2, 3), timers(6, 4))
	checkCancel(t, w, 2, true)
	checkStands(t, w, 0, 3)
	checkCancel(t, w, 2, false)
	checkCancel(t, w, 5, false)
	checkStands(t, w, 0, 3)
	checkTick(t, w, 4)
	checkCancel(t, w, 4, true)
	checkStands(t, w, 4, 2)
	checkCancel(t, w, 4, false)
	checkTick(t, w, 5, timers(5, 1, 3)...)
	checkHas(t, w)
}

// P17.1: of one that was told Cancel tells false, and what is set, also at the same
// spoke, stays so.

func TestCancelOfOneThatWasTold(t *testing.T) {
	for far := 1; far <= 300; far++ {
		w := made(t, timers(5+far, 3), timers(5, 1, 2))
		checkTick(t, w, 5, timers(5, 1, 2)...)
		checkCancel(t, w, 1, false)
		checkCancel(t, w, 2, false)
		checkStands(t, w, 5, 1)
		checkSet(t, w, timer(1, 5+far), nil)
		checkCancel(t, w, 1, true)
		checkCancel(t, w, 1, false)
		checkHas(t, w, timers(5+far, 3))
	}
}

// P17.1: Ids are any numbers: each is its own.

func TestCancelOfAnyId(t *testing.T) {
	for _, one := range ids() {
		w := wheel.New()
		for _, id := range ids() {
			checkCancel(t, w, id, false)
		}
		checkSet(t, w, timer(one, 5), nil)
		for _, id := range ids() {
			if id != one {
				checkCancel(t, w, id, false)
			}
		}
		checkStands(t, w, 0, 1)
		checkCancel(t, w, one, true)
		checkCancel(t, w, one, false)
		checkHas(t, w)
	}
}

// P17.1: an Id is no At, and no What.

func TestCancelGoesByTheId(t *testing.T) {
	w := wheel.New()
	checkSet(t, w, api.Timer{Id: 1, At: 5, What: 9}, nil)
	checkSet(t, w, api.Timer{Id: 9, At: 1, What: 5}, nil)
	checkSet(t, w, api.Timer{Id: 6, At: 5, What: 9}, nil)
	checkCancel(t, w, 5, false)
	checkCancel(t, w, 9, true)
	checkHas(t, w, []api.Timer{{Id: 1, At: 5, What: 9}, {Id: 6, At: 5, What: 9}})
}

// P17.1: any one of those at one tick, the others stay in their order; so where they
// are at one spoke, but of different ticks.

func TestCancelOfEach(t *testing.T) {
	for size := 1; size <= 50; size++ {
		for _, far := range []int{0, 1, 32, 64, 128} {
			for gone := range size {
				w := wheel.New()
				var want []api.Timer
				for i := range size {
					one := timer(i, 5+i*far)
					checkSet(t, w, one, nil)
					if i != gone {
						want = append(want, one)
					}
				}
				checkCancel(t, w, gone, true)
				checkCancel(t, w, gone, false)
				checkHas(t, w, want)
			}
		}
	}
}

// P17.1: all of them, in the order in which they were set, the other way round, and
// from the middle on.

func TestCancelOfAll(t *testing.T) {
	for step := 1; step < 53; step++ {
		w := made(t, timers(5, upTo(52)[:26]...), timers(70, upTo(50)[26:]...))
		for i := range 53 {
			id := i * step % 53
			checkCancel(t, w, id, id >= 1 && id <= 50)
			checkCancel(t, w, id, false)
		}
		checkHas(t, w)
	}
}

// R2, P17.1: as often as one sets and cancels, nothing else comes of it.

func TestSetAndCancelOften(t *testing.T) {
	w := made(t, timers(9, 1, 2), timers(9+64, 3))
	for n := range 20000 {
		at := 1 + n%150
		checkSet(t, w, timer(7, at), nil)
		checkStands(t, w, 0, 4)
		checkCancel(t, w, 7, true)
		checkCancel(t, w, 7, false)
		checkStands(t, w, 0, 3)
	}
	checkHas(t, w, timers(9, 1, 2), timers(9+64, 3))
	for _, id := range []int{1, 2, 3, 7, math.MinInt, math.MaxInt} {
		checkCancel(t, w, id, false)
	}
}
