package mailbox_test

import (
	"testing"

	"spinet/api"
)

// takings are the two that take the first number: where one waits, or the box is
// closed, they are one and the same.
func takings() map[string]taking { return map[string]taking{"Try": try, "Take": take} }

// P16.1: the first one is taken, and waits no more.

func TestTakeInOrder(t *testing.T) {
	defer limit(t)()
	for name, one := range takings() {
		b := made(t, 5, 30, 10, 0, 10, 20)
		for i, want := range []int{30, 10, 0, 10, 20} {
			if n, ok := one(b); n != want || !ok {
				t.Errorf("%s() = %d, %v, want %d, true", name, n, ok, want)
			}
			checkLen(t, b, 4-i)
		}
		checkNoTry(t, b)
	}
}

// P16.1: what comes meanwhile stands behind all.

func TestTakeAndPutByTurns(t *testing.T) {
	defer limit(t)()
	for name, one := range takings() {
		for _, room := range []int{2, 3, 4, 5, 1000} {
			b := made(t, room, 100)
			for n := 101; n < 200; n++ {
				checkPut(t, b, n, nil)
				checkLen(t, b, 2)
				if got, ok := one(b); got != n-1 || !ok {
					t.Errorf("%s() = %d, %v, want %d, true", name, got, ok, n-1)
				}
				checkLen(t, b, 1)
			}
			checkHas(t, b, 199)
		}
	}
}

// P16.1: Try tells 0 and false, where none waits, open or closed, as often as it is
// asked; a 0 that waits is told with true.

func TestTryOfAnEmptyBox(t *testing.T) {
	defer limit(t)()
	b := made(t, 2)
	for range 3 {
		checkNoTry(t, b)
		checkLen(t, b, 0)
	}
	checkPut(t, b, 0, nil)
	checkTry(t, b, 0)
	checkNoTry(t, b)
	checkPut(t, b, 8, nil)
	checkHas(t, b, 8)
	b.Close()
	for range 3 {
		checkNoTry(t, b)
		checkLen(t, b, 0)
	}
}

// P16.1: Take of a closed box in which none waits doesn't wait.

func TestTakeOfAClosedBox(t *testing.T) {
	defer limit(t)()
	b := closed(t, 2)
	for range 3 {
		checkNoTake(t, b)
		checkLen(t, b, 0)
	}
}

// P16.1: numbers that still wait once it is closed are taken all the same.

func TestTakeWhatStillWaits(t *testing.T) {
	defer limit(t)()
	for name, one := range takings() {
		b := closed(t, 4, 6, 0, 5)
		checkLen(t, b, 3)
		for i, want := range []int{6, 0, 5} {
			checkPut(t, b, 9, api.ErrClosed)
			if n, ok := one(b); n != want || !ok {
				t.Errorf("%s() of a closed box = %d, %v, want %d, true", name, n, ok, want)
			}
			checkLen(t, b, 2-i)
		}
		for range 2 {
			if n, ok := one(b); n != 0 || ok {
				t.Errorf("%s() of a closed and empty box = %d, %v, want 0, false", name, n, ok)
			}
		}
	}
}

// P16.1: Close of a closed box changes nothing, with numbers in it or without.

func TestCloseTwice(t *testing.T) {
	defer limit(t)()
	b := made(t, 2, 3, 4)
	for range 3 {
		b.Close()
		checkLen(t, b, 2)
		checkPut(t, b, 5, api.ErrClosed)
		checkPush(t, b, 5, api.ErrClosed)
	}
	checkTake(t, b, 3)
	b.Close()
	checkLen(t, b, 1)
	checkTake(t, b, 4)
	b.Close()
	checkNoTake(t, b)
	checkNoTry(t, b)
	checkPut(t, b, 5, api.ErrClosed)
	checkPush(t, b, 5, api.ErrClosed)
	checkLen(t, b, 0)
}
