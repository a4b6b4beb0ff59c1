package feed_test

import (
	"math"
	"testing"

	"spinet/api"
	"spinet/feed"
)

// P18.1: New of each room that may be is a feed without readers, with room for just
// so many.

func TestNew(t *testing.T) {
	for room := 1; room <= 100; room++ {
		f := made(t, room, 0)
		checkNoPoll(t, f, 0)
		checkRead(t, f, 0)
		checkPoll(t, f, 0, 0)
		add(f, from(1, room)...)
		checkPoll(t, f, 0, 0, from(1, room)...)
		add(f, from(1, room+1)...)
		checkPoll(t, f, 0, 1, from(2, room)...)
	}
}

// P18.1: of any other room it is ErrArg, and (R3) there is no feed.

func TestNewOfNoRoom(t *testing.T) {
	wrong := []int{0, -1, -2, -99, -100, -101, math.MinInt32, math.MinInt + 1, math.MinInt,
		101, 102, 127, 128, 200, 256, 257, 1 << 16, 1<<16 + 1, math.MaxInt32, 1 << 32, 1<<32 + 1, 1<<32 + 100, math.MaxInt - 1, math.MaxInt}
	for room := -300; room <= 300; room++ {
		if room < 1 || room > 100 {
			wrong = append(wrong, room)
		}
	}
	for _, room := range wrong {
		if f, err := feed.New(room); f != nil || err != error(api.ErrArg) {
			t.Errorf("New(%d) = %v, %v, want none, ErrArg", room, f, err)
		}
	}
}

// P18.1: each feed has its own readers, entries and room.

func TestFeedsAreApart(t *testing.T) {
	one, two, none := made(t, 2, 1), made(t, 3, 2), made(t, 100, 0)
	add(one, 1, 2, 3)
	add(two, 4, 5)
	add(none, 6)
	checkNoPoll(t, one, 1)
	checkNoPoll(t, none, 0)
	checkPoll(t, two, 1, 0, 4, 5)
	checkPoll(t, one, 0, 1, 2, 3)
	checkPoll(t, two, 0, 0, 4, 5)
	checkRead(t, none, 0)
	checkRead(t, one, 1)
	checkPoll(t, none, 0, 0)
	checkPoll(t, one, 1, 0)
}
