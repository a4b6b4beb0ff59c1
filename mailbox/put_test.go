package mailbox_test

import (
	"math"
	"testing"

	"spinet/api"
)

// puttings are the two that put a number behind all: where there is room, or the
// box is closed, they are one and the same.
func puttings() map[string]putting { return map[string]putting{"Put": put, "Push": push} }

// P16.1: the chapter's example.

func TestExample(t *testing.T) {
	defer limit(t)()
	b := made(t, 1)
	checkPut(t, b, 5, nil)
	checkPut(t, b, 6, api.ErrFull)
	checkHas(t, b, 5)
}

// P16.1: where there is room, the number waits behind all, whatever number it is.

func TestPutWhereThereIsRoom(t *testing.T) {
	defer limit(t)()
	for name, one := range puttings() {
		b := made(t, 7)
		for i, n := range []int{0, math.MinInt, 5, 5, -1, math.MaxInt, 0} {
			if err := one(b, n); err != nil {
				t.Errorf("%s(%d): %v", name, n, err)
			}
			checkLen(t, b, i+1)
		}
		checkPut(t, b, 6, api.ErrFull)
		checkHas(t, b, 0, math.MinInt, 5, 5, -1, math.MaxInt, 0)
	}
}

// P16.1: of a full box Put tells ErrFull, as often as it is asked, and what is
// refused changes nothing.

func TestPutOfAFullBox(t *testing.T) {
	defer limit(t)()
	b := made(t, 3, 1, 2, 3)
	for n := range 5 {
		checkPut(t, b, n, api.ErrFull)
		checkLen(t, b, 3)
	}
	checkTry(t, b, 1)
	checkPut(t, b, 4, nil)
	checkPut(t, b, 5, api.ErrFull)
	checkHas(t, b, 2, 3, 4)
}

// P16.1: of a closed box both tell ErrClosed, though there were room, and also where
// there is none: that is named first.

func TestPutOfAClosedBox(t *testing.T) {
	defer limit(t)()
	for name, one := range puttings() {
		for _, in := range [][]int{{}, {1}, {1, 2}, {1, 2, 3}} {
			b := closed(t, 3, in...)
			for n := range 4 {
				if err := one(b, n); err != error(api.ErrClosed) {
					t.Errorf("%s(%d) of a closed box with %v: %v", name, n, in, err)
				}
				checkLen(t, b, len(in))
			}
			checkHas(t, b, in...)
			if err := one(b, 9); err != error(api.ErrClosed) {
				t.Errorf("%s(9) of a closed box: %v", name, err)
			}
			checkHas(t, b)
		}
		full := closed(t, 1, 7)
		if err := one(full, 8); err != error(api.ErrClosed) {
			t.Errorf("%s(8) of a closed and full box: %v", name, err)
		}
		checkHas(t, full, 7)
	}
}

// P16.1: the room that is made is there again, as often as one likes.

func TestRoomComesBack(t *testing.T) {
	defer limit(t)()
	for _, room := range []int{1, 2, 3, 1000} {
		for name, one := range puttings() {
			b := made(t, room)
			for n := range 3 * room {
				for i := range room {
					if err := one(b, n+i); err != nil {
						t.Fatalf("%s(%d) at room %d, round %d: %v", name, n+i, room, n, err)
					}
				}
				checkPut(t, b, 7, api.ErrFull)
				for i := range room {
					checkTry(t, b, n+i)
				}
				if room == 1000 && n > 3 {
					break
				}
			}
			checkHas(t, b)
		}
	}
}
