package wheel_test

import (
	"math"
	"slices"
	"testing"

	"spinet/api"
)

// P17.2: those of different Ats by rising At, in whatever order they were set.

func TestRisingAts(t *testing.T) {
	for _, far := range []int{1, 2, 31, 63, 64, 65, 96, 128, 1 << 20} {
		for step := 1; step < 47; step++ {
			w := made(t)
			var want []api.Timer
			for i := range 47 {
				n := i * step % 47
				checkSet(t, w, timer(1000-i, 1+n*far), nil)
				want = append(want, timer(1000-i, 1+n*far))
			}
			slices.SortFunc(want, func(a, b api.Timer) int { return a.At - b.At })
			checkHas(t, w, want)
		}
	}
}

// P17.2: those of one At in the order in which they were set, whatever their Ids are,
// and Whats.

func TestOneAt(t *testing.T) {
	for _, at := range []int{1, 5, 64, 300, api.MaxTick} {
		for _, l := range [][]int{{3, 1, 2}, {2, 1, 0, -1}, {0, -5, 5, 7, -7}, {math.MaxInt, math.MinInt, 0}, upTo(50)} {
			back := slices.Clone(l)
			slices.Reverse(back)
			checkTick(t, made(t, timers(at, l...)), at, timers(at, l...)...)
			checkTick(t, made(t, timers(at, back...)), at, timers(at, back...)...)
		}
	}
	w := made(t)
	same := []api.Timer{{Id: 4, At: 5, What: 9}, {Id: 2, At: 5, What: 9}, {Id: 3, At: 5, What: 0}, {Id: 1, At: 5, What: -9}}
	checkSetAll(t, w, same)
	checkTick(t, w, 5, same...)
}

// P17.2: so where others, at other ticks, were set between.

func TestOneAtWithOthersBetween(t *testing.T) {
	for far := 1; far <= 300; far++ {
		w := made(t)
		for id := range 16 {
			checkSet(t, w, timer(-id, 400), nil)
			checkSet(t, w, timer(100-id, 400+far), nil)
			checkSet(t, w, timer(200+id, 400-far), nil)
		}
		var back []int
		for id := range 16 {
			back = append(back, -id)
		}
		early, late := slices.Clone(back), slices.Clone(back)
		for id := range 16 {
			early[id], late[id] = 200+id, 100-id
		}
		checkHas(t, w, timers(400-far, early...), timers(400, back...), timers(400+far, late...))
	}
}

// P17.2: so where some were set later than others, the clock having gone on between.

func TestOneAtSetAtSeveralTicks(t *testing.T) {
	w := made(t)
	var l []int
	for now := range 250 {
		checkTick(t, w, now)
		if now%5 == 0 {
			l = append(l, 1000-now)
			checkSet(t, w, timer(1000-now, 250), nil)
		}
	}
	checkTick(t, w, 250, timers(250, l...)...)
}

// P17.2: one that was cancelled and set again, or told and set again, is behind all.

func TestOneAtSetAgain(t *testing.T) {
	w := made(t, timers(5, 1, 2, 3, 4))
	checkCancel(t, w, 2, true)
	checkSet(t, w, timer(2, 5), nil)
	checkCancel(t, w, 1, true)
	checkSet(t, w, timer(9, 5), nil)
	checkSet(t, w, timer(1, 5), nil)
	checkCancel(t, w, 9, true)
	checkSet(t, w, timer(9, 6), nil)
	checkCancel(t, w, 4, true)
	checkSet(t, w, timer(4, 4), nil)
	checkCancel(t, w, 4, true)
	checkSet(t, w, timer(4, 5), nil)
	checkTick(t, w, 5, timers(5, 3, 2, 1, 4)...)
	checkSetAll(t, w, timers(8, 2, 4, 7, 3, 1))
	checkHas(t, w, timers(6, 9), timers(8, 2, 4, 7, 3, 1))
}

// P17.2: so with any one of them, and with any two.

func TestOneAtSetAgainOfEach(t *testing.T) {
	for _, far := range []int{0, 1, 64} {
		for first := range 12 {
			for second := range 12 {
				w := made(t)
				var want []int
				for id := range 12 {
					checkSet(t, w, timer(id, 300), nil)
					checkSet(t, w, timer(100+id, 300+(id+1)*far), nil)
					want = append(want, id)
				}
				for id := range 12 {
					checkCancel(t, w, 100+id, true)
				}
				for _, id := range []int{first, second} {
					checkCancel(t, w, id, true)
					checkSet(t, w, timer(id, 300), nil)
					want = append(slices.DeleteFunc(want, func(n int) bool { return n == id }), id)
				}
				checkHas(t, w, timers(300, want...))
			}
		}
	}
}

// P17.2: a refused Set changes no order.

func TestRefusedSetsChangeNoOrder(t *testing.T) {
	w := made(t, timers(5, upTo(50)...))
	for _, id := range upTo(50) {
		checkSet(t, w, timer(id, 5), api.ErrTwice)
		checkSet(t, w, timer(id+50, 5), api.ErrFull)
		checkSet(t, w, timer(id+50, 0), api.ErrArg)
		checkNoTick(t, w, -1)
	}
	checkTick(t, w, 5, timers(5, upTo(50)...)...)
}
