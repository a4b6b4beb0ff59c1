package wheel_test

import (
	"slices"
	"testing"

	"spinet/api"
	"spinet/wheel"
)

// mostFar is more than a few turns of any wheel that would be made for MaxTimers.
const mostFar = 300

// begins are ticks from which a wheel is gone on with.
func begins() []int { return []int{0, 1, 7, 63, 64, 1000, api.MaxTick - 2*mostFar} }

// P17.2: from the clock to any tick not far ahead: just what is due is told, be that
// less than a turn of the wheel, one, or more.

func TestTickAsFar(t *testing.T) {
	for _, begin := range begins() {
		for far := 1; far <= mostFar; far++ {
			for _, ahead := range []int{0, 1, 2, far / 2, far - 2, far - 1} {
				if ahead < 0 || ahead >= far {
					continue
				}
				w := madeAt(t, begin, timers(begin+far, 1))
				checkTick(t, w, begin+ahead)
				checkStands(t, w, begin+ahead, 1)
				checkTick(t, w, begin+far, timer(1, begin+far))
				checkStands(t, w, begin+far, 0)
			}
			for _, over := range []int{1, 2, 63, 64, 65, mostFar} {
				w := madeAt(t, begin, timers(begin+far, 1))
				checkTick(t, w, begin+far+over, timer(1, begin+far))
				checkStands(t, w, begin+far+over, 0)
			}
		}
	}
}

// P17.2: at each of 50 ticks in a row there is one; a tick of any length tells just
// those up to it, the next one the others.

func TestTickOverARow(t *testing.T) {
	for _, begin := range begins() {
		for apart := 1; apart <= 5; apart++ {
			for far := 0; far <= 50*apart+1; far++ {
				w := madeAt(t, begin)
				var due, later []api.Timer
				for _, id := range upTo(50) {
					one := timer(id, begin+apart*id)
					checkSet(t, w, one, nil)
					if one.At <= begin+far {
						due = append(due, one)
					} else {
						later = append(later, one)
					}
				}
				checkTick(t, w, begin+far, due...)
				checkHas(t, w, later)
			}
		}
	}
}

// P17.2: of some that are one turn of the wheel apart, whatever a turn is, each tick
// tells just what is due: those of later turns wait, be they set ahead of the others
// or behind them.

func TestTurns(t *testing.T) {
	for _, begin := range []int{0, 5, 64} {
		for turn := 1; turn <= mostFar; turn++ {
			for _, order := range [][]int{{0, 1, 2, 3}, {3, 2, 1, 0}, {2, 0, 3, 1}} {
				w := madeAt(t, begin)
				for _, k := range order {
					checkSetAll(t, w, timers(begin+3+k*turn, k, 10+k))
				}
				for k := range 4 {
					due := begin + 3 + k*turn
					checkTick(t, w, due-1)
					checkStands(t, w, due-1, 2*(4-k))
					checkTick(t, w, due, timers(due, k, 10+k)...)
					checkStands(t, w, due, 2*(3-k))
				}
			}
		}
	}
}

// P17.2: likewise over turns that are very long, which any number of spokes that is a
// power of two divides.

func TestLongTurns(t *testing.T) {
	for turn := 1; turn <= api.MaxTick/4; turn *= 2 {
		for _, begin := range []int{0, turn / 2} {
			w := made(t)
			for k := 3; k > 0; k-- {
				checkSetAll(t, w, timers(begin+k*turn, k, 10+k))
			}
			for k := 1; k <= 3; k++ {
				due := begin + k*turn
				checkTick(t, w, due-1)
				checkTick(t, w, due, timers(due, k, 10+k)...)
			}
			checkHas(t, w)
		}
	}
}

// P17.2: one tick over many turns tells all that are up to it, those of one At in
// their order, and none that are behind it.

func TestTickOverManyTurns(t *testing.T) {
	for turn := 1; turn <= mostFar; turn++ {
		w := made(t)
		var want [][]api.Timer
		for k := range 12 {
			checkSet(t, w, timer(100+k, 1+(11-k)*turn), nil)
		}
		for k := range 12 {
			checkSet(t, w, timer(k, 1+k*turn), nil)
			want = append(want, timers(1+k*turn, 111-k, k))
		}
		checkTick(t, w, 1+5*turn, slices.Concat(want[:6]...)...)
		checkStands(t, w, 1+5*turn, 12)
		checkTick(t, w, 6*turn)
		checkHas(t, w, want[6:]...)
	}
}

// P17.2: one that is set for a tick of a spoke that the clock is at, or was just at,
// is due a turn later.

func TestSetAtTheClocksSpoke(t *testing.T) {
	for turn := 1; turn <= mostFar; turn++ {
		for _, now := range []int{0, 1, turn, turn + 1, 5 * turn} {
			w := madeAt(t, now, timers(now+turn, 1), timers(now+2*turn, 2))
			checkTick(t, w, now)
			checkTick(t, w, now+turn, timer(1, now+turn))
			checkTick(t, w, now+turn)
			checkTick(t, w, now+2*turn, timer(2, now+2*turn))
		}
	}
}

// split are timers of which many are at one tick, or a turn apart.
func split(turn int) []api.Timer {
	var l []api.Timer
	for id := range api.MaxTimers {
		l = append(l, timer(id, 1+id*id%7+id%5*turn))
	}
	return l
}

// P17.2: one long tick tells what many short ones do.

func TestOneLongTickIsManyShortOnes(t *testing.T) {
	for turn := 1; turn <= mostFar; turn++ {
		l := split(turn)
		end := 8 + 4*turn
		want := ticked(t, made(t, l), end, end)
		if len(want) != len(l) {
			t.Fatalf("turn %d: Tick(%d) told %d, want %d", turn, end, len(want), len(l))
		}
		for _, step := range []int{1, 2, 3, 7, 31, 63, 64, 65, 127, 128, turn, turn + 1, turn + 2} {
			if got := ticked(t, made(t, l), step, end); !slices.Equal(got, want) {
				t.Fatalf("turn %d, ticks of %d: %v, want %v", turn, step, got, want)
			}
		}
	}
}

// ticked is all that a wheel tells by ticks of that length, up to the end.
func ticked(t *testing.T, w *wheel.Wheel, step, end int) []api.Timer {
	t.Helper()
	var l []api.Timer
	for w.Now() < end {
		told, err := w.Tick(min(w.Now()+step, end))
		if err != nil {
			t.Fatal(err)
		}
		l = append(l, told...)
	}
	return l
}
