package feed_test

import (
	"math"
	"testing"
)

// P18.1: the readers' numbers go from 0 on, up to the eighth one; what else is called
// between them changes nothing of that.

func TestRead(t *testing.T) {
	for _, room := range []int{1, 2, 8, 9, 100} {
		for came := range 4 {
			f := made(t, room, 0)
			for number := range 8 {
				checkNoPoll(t, f, number)
				add(f, from(10*int64(number), came)...)
				checkNoPoll(t, f, number)
				checkRead(t, f, number)
				if number%2 == 0 {
					checkPoll(t, f, number, 0)
				}
			}
			checkNoRead(t, f)
		}
	}
}

// P18.1: a ninth one is ErrFull, as often as it is asked for, and nothing changes: no
// reader begins anew, and none has read.

func TestReadOfTooMany(t *testing.T) {
	f := made(t, 3, 8)
	checkNoRead(t, f)
	add(f, 1, 2)
	checkNoRead(t, f)
	checkPoll(t, f, 0, 0, 1, 2)
	add(f, 3, 4)
	for range 20 {
		checkNoRead(t, f)
	}
	checkNoPoll(t, f, 8)
	checkPoll(t, f, 0, 0, 3, 4)
	for number := 1; number < 8; number++ {
		checkPoll(t, f, number, 1, 2, 3, 4)
		checkNoRead(t, f)
		checkPoll(t, f, number, 0)
	}
	add(f, 5)
	for number := range 8 {
		checkPoll(t, f, number, 0, 5)
	}
	checkNoPoll(t, f, 8)
}

// P18.1: of a reader that isn't there Poll is ErrNone, and nothing changes: none begins
// by it, and none has read.

func TestPollOfNoReader(t *testing.T) {
	for size := 0; size <= 8; size++ {
		wrong := []int{-1, -2, -7, -8, -9, -100, math.MinInt32, -1 << 32, math.MinInt, math.MinInt + 1,
			size, size + 1, size + 2, 8, 9, 15, 16, 100, math.MaxInt32, 1 << 32, 1<<32 + 1, math.MaxInt - 1, math.MaxInt}
		f := made(t, 2, size)
		for _, reader := range wrong {
			checkNoPoll(t, f, reader)
		}
		add(f, 1, 2, 3)
		for _, reader := range wrong {
			checkNoPoll(t, f, reader)
		}
		for number := range size {
			checkPoll(t, f, number, 1, 2, 3)
			checkPoll(t, f, number, 0)
		}
		if size < 8 {
			checkRead(t, f, size)
			checkPoll(t, f, size, 0)
			checkNoPoll(t, f, size+1)
		} else {
			checkNoRead(t, f)
		}
	}
}
