package deque_test

import (
	"math"
	"slices"
	"testing"
)

// P19.1: Pop tells what stands at the back, Steal what stands at the front; neither
// stands there any more.

func TestTheExample(t *testing.T) {
	d := made(t, 1, 2, 3)
	checkSteal(t, d, 1)
	checkPop(t, d, 3)
	checkSteal(t, d, 2)
	checkEmpty(t, d)
}

func TestOne(t *testing.T) {
	for _, x := range []int{7, 0, 1, -1, math.MaxInt, math.MinInt} {
		d := made(t, x)
		checkPop(t, d, x)
		checkEmpty(t, d)
		pushAll(t, d, x)
		checkSteal(t, d, x)
		checkEmpty(t, d)
	}
}

// Pop tells them from the last one on, Steal from the first one on.

func TestAllFromOneEnd(t *testing.T) {
	for _, size := range []int{1, 2, 3, 4, 5, 7, 8, 9, 15, 16, 17, 64, 65, 100, 1000, 1025, 5000} {
		l := from(1, size)
		d := made(t, l...)
		checkSteal(t, d, l...)
		checkEmpty(t, d)
		pushAll(t, d, l...)
		slices.Reverse(l)
		checkPop(t, d, l...)
		checkEmpty(t, d)
	}
}

// So many from the front, and then the others from the back; and the other way round.

func TestFromBothEnds(t *testing.T) {
	for size := range 40 {
		l := from(-3, size)
		back := slices.Clone(l)
		slices.Reverse(back)
		for k := range size + 1 {
			d := made(t, l...)
			checkSteal(t, d, l[:k]...)
			checkPop(t, d, back[:size-k]...)
			checkEmpty(t, d)
			d = made(t, l...)
			checkPop(t, d, back[:size-k]...)
			checkSteal(t, d, l[:k]...)
			checkEmpty(t, d)
		}
	}
}

// What is pushed behind others stands behind them, wherever some were taken ahead of
// that.

func TestPushedBehind(t *testing.T) {
	d := made(t, 1, 2, 3, 4)
	checkPop(t, d, 4)
	pushAll(t, d, 5)
	checkPop(t, d, 5, 3)
	pushAll(t, d, 6, 7)
	checkSteal(t, d, 1, 2, 6)
	pushAll(t, d, 8)
	checkPop(t, d, 8)
	checkSteal(t, d, 7)
	checkEmpty(t, d)
	pushAll(t, d, 9, 10)
	checkPop(t, d, 10)
	pushAll(t, d, 11)
	checkSteal(t, d, 9, 11)
	checkEmpty(t, d)
}

// Those that are the same are as many as were pushed.

func TestAllTheSame(t *testing.T) {
	for _, x := range []int{0, 1, -1} {
		for size := range 20 {
			d := made(t, make([]int, size)...)
			for range size {
				checkSteal(t, d, 0)
				pushAll(t, d, x)
			}
			for k := range size {
				if k%2 == 0 {
					checkPop(t, d, x)
				} else {
					checkSteal(t, d, x)
				}
			}
			checkEmpty(t, d)
		}
	}
}

// Some thousands, told from both ends in turns, down to nothing and up again.

func TestThousands(t *testing.T) {
	d := made[int](t)
	for round, size := range []int{5000, 1, 20000, 3, 4096, 4097, 10000} {
		first := 100000 * round
		pushAll(t, d, from(first, size)...)
		front, back := first, first+size-1
		for k := 0; front <= back; k++ {
			if (k+round)%3 == 0 {
				checkPop(t, d, back)
				back--
			} else {
				checkSteal(t, d, front)
				front++
			}
		}
		checkEmpty(t, d)
	}
}
