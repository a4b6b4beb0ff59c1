package mailbox_test

import (
	"slices"
	"testing"
	"testing/synctest"

	"spinet/api"
	"spinet/mailbox"
)

// P16.1: Push of a full box waits until there is room; then its number is behind
// all.

func TestPushWaitsForRoom(t *testing.T) {
	for name, one := range takings() {
		for _, in := range [][]int{{1}, {1, 2}, {1, 2, 3, 4}} {
			bubble(t, func(t *testing.T) {
				b := made(t, len(in), in...)
				p := waitingPush(t, b, 9)
				checkLen(t, b, len(in))
				if n, ok := one(b); n != 1 || !ok {
					t.Errorf("%s() = %d, %v", name, n, ok)
				}
				checkPushed(t, nil, p)
				checkPut(t, b, 10, api.ErrFull)
				checkHas(t, b, append(slices.Clone(in[1:]), 9)...)
			})
		}
	}
}

// P16.1: or until it is closed; then its number is in none.

func TestPushWaitsForTheEnd(t *testing.T) {
	for _, in := range [][]int{{1}, {1, 2}, {1, 2, 3, 4}} {
		bubble(t, func(t *testing.T) {
			b := made(t, len(in), in...)
			p := waitingPush(t, b, 9)
			b.Close()
			checkPushed(t, api.ErrClosed, p)
			checkPut(t, b, 10, api.ErrClosed)
			checkHas(t, b, in...)
		})
	}
}

// P16.1: Take of an open box in which none waits waits until one does: of Put, or
// of Push.

func TestTakeWaitsForANumber(t *testing.T) {
	for name, one := range puttings() {
		for _, n := range []int{7, 0, -1} {
			bubble(t, func(t *testing.T) {
				b := made(t, 2)
				c := waitingTake(t, b)
				checkLen(t, b, 0)
				if err := one(b, n); err != nil {
					t.Errorf("%s(%d): %v", name, n, err)
				}
				checkTaken(t, c, n)
				checkHas(t, b)
			})
		}
	}
}

// P16.1: or until it is closed.

func TestTakeWaitsForTheEnd(t *testing.T) {
	bubble(t, func(t *testing.T) {
		b := made(t, 2)
		c := waitingTake(t, b)
		b.Close()
		checkNoneTaken(t, c)
		checkNoTake(t, b)
		checkPut(t, b, 1, api.ErrClosed)
		checkHas(t, b)
	})
	bubble(t, func(t *testing.T) {
		b := made(t, 1, 3)
		checkTake(t, b, 3)
		c := waitingTake(t, b)
		b.Close()
		checkNoneTaken(t, c)
		checkHas(t, b)
	})
}

// P16.1: nothing else lets a call on, and none of the others waits meanwhile.

func TestWhatLetsNoPushOn(t *testing.T) {
	bubble(t, func(t *testing.T) {
		b, other := made(t, 2, 1, 2), made(t, 2, 3, 4)
		p := waitingPush(t, b, 9)
		checkPut(t, b, 10, api.ErrFull)
		checkWaits(t, p)
		checkLen(t, b, 2)
		checkWaits(t, p)
		checkTry(t, other, 3)
		checkTake(t, other, 4)
		checkNoTry(t, other)
		other.Close()
		checkNoTake(t, other)
		checkWaits(t, p)
		checkTry(t, b, 1)
		checkPushed(t, nil, p)
		checkHas(t, b, 2, 9)
	})
}

func TestWhatLetsNoTakeOn(t *testing.T) {
	bubble(t, func(t *testing.T) {
		b, other := made(t, 2), made(t, 2)
		c := waitingTake(t, b)
		checkNoTry(t, b)
		checkWaits(t, c)
		checkLen(t, b, 0)
		checkWaits(t, c)
		checkPut(t, other, 3, nil)
		checkPush(t, other, 4, nil)
		checkPut(t, other, 5, api.ErrFull)
		other.Close()
		checkPut(t, other, 5, api.ErrClosed)
		checkWaits(t, c)
		checkPut(t, b, 6, nil)
		checkTaken(t, c, 6)
		checkHas(t, b)
		checkHas(t, other, 3, 4)
	})
}

// P16.1: of several that wait each room lets one on, just one, until none waits.

func TestSeveralPushesWait(t *testing.T) {
	for _, room := range []int{1, 2, 5} {
		bubble(t, func(t *testing.T) {
			b, front := fullBox(t, room)
			wait := waitingPushes(t, b, 7)
			for len(wait) > 0 {
				checkTry(t, b, front[0])
				back, rest := cameBack(wait)
				if len(back) != 1 || back[0].err != nil {
					t.Fatalf("%d of %d Pushes came back, with room for one", len(back), len(wait))
				}
				wait, front = rest, append(front[1:], back[0].n)
				checkLen(t, b, room)
			}
			checkHas(t, b, front...)
		})
	}
}

func TestSeveralTakesWait(t *testing.T) {
	for _, room := range []int{1, 2, 5} {
		bubble(t, func(t *testing.T) {
			b := made(t, room)
			wait := waitingTakes(t, b, 7)
			for n := range 7 {
				checkPut(t, b, n, nil)
				back, rest := cameBack(wait)
				if len(back) != 1 || back[0].n != n || !back[0].ok {
					t.Fatalf("%d of %d Takes came back, where %d waits", len(back), len(wait), n)
				}
				wait = rest
				checkLen(t, b, 0)
			}
			checkPut(t, b, 7, nil)
			checkHas(t, b, 7)
		})
	}
}

// P16.1: so it is where room for several is made at once, or several come at once:
// as many are let on.

func TestRoomForSeveralAtOnce(t *testing.T) {
	for waiting := range 6 {
		for room := range 6 {
			bubble(t, func(t *testing.T) {
				b, front := fullBox(t, room+1)
				wait := waitingPushes(t, b, waiting)
				for _, n := range front {
					checkTry(t, b, n)
				}
				back, rest := cameBack(wait)
				checkLet(t, len(back), min(waiting, room+1))
				checkPushed(t, nil, back...)
				checkLen(t, b, len(back))
				b.Close()
				checkPushed(t, api.ErrClosed, rest...)
				checkHasAny(t, b, back)
			})
		}
	}
}

func TestNumbersForSeveralAtOnce(t *testing.T) {
	for waiting := range 6 {
		for come := range 6 {
			bubble(t, func(t *testing.T) {
				b := made(t, 6)
				wait := waitingTakes(t, b, waiting)
				for n := range come {
					checkPut(t, b, n, nil)
				}
				back, rest := cameBack(wait)
				checkLet(t, len(back), min(waiting, come))
				checkLen(t, b, come-len(back))
				checkNumbers(t, back, len(back))
				b.Close()
				checkNoneTaken(t, rest...)
			})
		}
	}
}

func checkLet(t *testing.T, got, want int) {
	t.Helper()
	if got != want {
		t.Errorf("%d calls were let on, want %d", got, want)
	}
}

// checkNumbers asks that these Takes told each number below size once.
func checkNumbers(t *testing.T, l []*call, size int) {
	t.Helper()
	var got []int
	for _, c := range l {
		if c.ok {
			got = append(got, c.n)
		}
	}
	slices.Sort(got)
	if !slices.Equal(got, upTo(size)) {
		t.Errorf("%d Takes told %v, want each below %d once", len(l), got, size)
	}
}

// upTo are the numbers below size.
func upTo(size int) []int {
	l := make([]int, size)
	for n := range l {
		l[n] = n
	}
	return l
}

// checkHasAny takes all, which is what these Pushes brought, in any order.
func checkHasAny(t *testing.T, b *mailbox.Box, l []*call) {
	t.Helper()
	var want, got []int
	for _, c := range l {
		want = append(want, c.n)
	}
	for n, ok := b.Try(); ok; n, ok = b.Try() {
		got = append(got, n)
	}
	slices.Sort(want)
	slices.Sort(got)
	if !slices.Equal(got, want) {
		t.Errorf("the box has %v, want %v", got, want)
	}
}

// P16.1: its end lets all on that wait, however many.

func TestTheEndLetsAllOn(t *testing.T) {
	for _, many := range []int{2, 3, 10, 1000} {
		bubble(t, func(t *testing.T) {
			b, front := fullBox(t, 3)
			wait := waitingPushes(t, b, many)
			b.Close()
			checkPushed(t, api.ErrClosed, wait...)
			checkHas(t, b, front...)
		})
		bubble(t, func(t *testing.T) {
			b := made(t, 3)
			wait := waitingTakes(t, b, many)
			b.Close()
			checkNoneTaken(t, wait...)
			checkHas(t, b)
		})
	}
}

// P16.1: calls wait for room and later ones for numbers, in one box, over and over.

func TestWaitByTurns(t *testing.T) {
	bubble(t, func(t *testing.T) {
		b := made(t, 1)
		for n := range 20 {
			c := waitingTake(t, b)
			checkPut(t, b, n, nil)
			checkTaken(t, c, n)
			checkPush(t, b, n+100, nil)
			p := waitingPush(t, b, n+200)
			checkTake(t, b, n+100)
			checkPushed(t, nil, p)
			checkTake(t, b, n+200)
		}
		checkHas(t, b)
	})
}

// P16.1: a call that begins while others wait has what it finds: a Take what waits
// in front, not what a Push brings; and a Push waits for a room of its own.

func TestWhoComesLater(t *testing.T) {
	bubble(t, func(t *testing.T) {
		b := made(t, 2, 1, 2)
		p := waitingPush(t, b, 3)
		checkTake(t, b, 1)
		checkPushed(t, nil, p)
		q := waitingPush(t, b, 4)
		checkTake(t, b, 2)
		checkPushed(t, nil, q)
		checkHas(t, b, 3, 4)
	})
}

// P16.1: whatever becomes of a Push that waits, where room is made and the box is
// closed right behind: its number is in the box just if it told no error.

func TestRoomAndTheEndAtOnce(t *testing.T) {
	for range 100 {
		bubble(t, func(t *testing.T) {
			b := made(t, 2, 1, 2)
			p := waitingPush(t, b, 3)
			checkTry(t, b, 1)
			b.Close()
			synctest.Wait()
			if p.err == nil {
				checkPushed(t, nil, p)
				checkHas(t, b, 2, 3)
			} else {
				checkPushed(t, api.ErrClosed, p)
				checkHas(t, b, 2)
			}
		})
	}
}

// fullBox is a box with as many numbers as room, and these.
func fullBox(t *testing.T, room int) (*mailbox.Box, []int) {
	t.Helper()
	front := upTo(room)
	return made(t, room, front...), front
}

// waitingPushes are so many of them, with numbers from 100 on, that wait at a full
// box.
func waitingPushes(t *testing.T, b *mailbox.Box, many int) []*call {
	t.Helper()
	var l []*call
	for n := range many {
		l = append(l, pushing(b, 100+n))
	}
	checkWaits(t, l...)
	return l
}

func waitingTakes(t *testing.T, b *mailbox.Box, many int) []*call {
	t.Helper()
	var l []*call
	for range many {
		l = append(l, takingOf(b))
	}
	checkWaits(t, l...)
	return l
}
