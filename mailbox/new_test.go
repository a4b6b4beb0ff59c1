package mailbox_test

import (
	"math"
	"testing"

	"spinet/api"
	"spinet/mailbox"
)

// P16.1: New at rooms that may be: the box is open, has nothing in it, and just so
// much room.

func TestNew(t *testing.T) {
	defer limit(t)()
	for _, room := range []int{1, 2, 3, 4, 5, 7, 8, 9, 16, 17, 100, 512, 513, 999, 1000} {
		b := made(t, room)
		checkHas(t, b)
		var all []int
		for n := range room {
			all = append(all, n-3)
			checkPut(t, b, n-3, nil)
			checkLen(t, b, n+1)
		}
		checkPut(t, b, 77, api.ErrFull)
		checkHas(t, b, all...)
	}
}

// P16.1: New at rooms that may not be: no box, and ErrArg itself.

func TestNewOutOfRange(t *testing.T) {
	defer limit(t)()
	for _, room := range []int{math.MinInt, math.MinInt32, -1000, -999, -2, -1, 0, 1001, 1002, 2000, 1 << 16, 1 << 32, 1<<32 + 1, math.MaxInt} {
		if b, err := mailbox.New(room); b != nil || err != error(api.ErrArg) {
			t.Errorf("New(%d) = %v, %v, want none, ErrArg", room, b, err)
		}
	}
}

// R2: what New tells is new: no two boxes have anything in common.

func TestBoxesAreApart(t *testing.T) {
	defer limit(t)()
	a, b, c := made(t, 2), made(t, 2), closed(t, 2)
	checkPut(t, a, 1, nil)
	checkPut(t, b, 2, nil)
	checkPut(t, a, 3, nil)
	checkPut(t, a, 4, api.ErrFull)
	checkLen(t, b, 1)
	checkPut(t, b, 5, nil)
	checkLen(t, c, 0)
	a.Close()
	checkPut(t, a, 6, api.ErrClosed)
	checkPut(t, b, 6, api.ErrFull)
	checkHas(t, b, 2, 5)
	checkHas(t, a, 1, 3)
	checkPut(t, b, 7, nil)
	checkHas(t, b, 7)
	checkHas(t, made(t, 2))
}
