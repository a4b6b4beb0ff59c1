package deque_test

import (
	"testing"
)

// P19.1: many are pushed and stolen in turns, while so many others stand between: each
// Steal tells what was pushed so long ago, and in the end they stand there in order.

func TestPushedAndStolenInTurns(t *testing.T) {
	for _, between := range []int{0, 1, 2, 3, 4, 5, 7, 8, 9, 31, 32, 100, 1000, 3000} {
		d := made(t, from(0, between)...)
		for n := range 20000 {
			pushAll(t, d, n+between)
			checkSteal(t, d, n)
		}
		checkSteal(t, d, from(20000, between)...)
		checkEmpty(t, d)
	}
}

// Likewise with Steal ahead of Push.

func TestStolenAndPushedInTurns(t *testing.T) {
	for _, between := range []int{1, 2, 3, 4, 5, 8, 16, 17, 1000} {
		d := made(t, from(0, between)...)
		for n := range 20000 {
			checkSteal(t, d, n)
			pushAll(t, d, n+between)
		}
		for n := 20000 + between - 1; n >= 20000; n-- {
			checkPop(t, d, n)
		}
		checkEmpty(t, d)
	}
}

// So many are pushed, and so many of them stolen, again and again: the row grows, or
// it is emptied each time. With a Pop of what was pushed last no other is missed.

func TestPushedAndStolenByMany(t *testing.T) {
	for pushes := 1; pushes <= 12; pushes++ {
		for steals := range pushes + 1 {
			d := made[int](t)
			front, back := 0, 0
			for range 300 {
				pushAll(t, d, from(back, pushes)...)
				back += pushes
				checkSteal(t, d, from(front, steals)...)
				front += steals
				pushAll(t, d, -back)
				checkPop(t, d, -back)
			}
			checkSteal(t, d, from(front, back-front)...)
			checkEmpty(t, d)
		}
	}
}

// What stands at the front stays there, however many are pushed and popped behind it.

func TestPushedAndPoppedInTurns(t *testing.T) {
	for _, between := range []int{0, 1, 2, 3, 4, 8, 1000} {
		d := made(t, from(1, between)...)
		for n := range 20000 {
			pushAll(t, d, -n, 7)
			checkPop(t, d, 7, -n)
		}
		checkSteal(t, d, from(1, between)...)
		checkEmpty(t, d)
	}
}

// Very many, up to a million, of which each is told in its turn.

func TestVeryMany(t *testing.T) {
	d := made[int](t)
	for n := range 1000000 {
		d.Push(n)
	}
	checkLen(t, d, 1000000)
	for n := range 500000 {
		checkSteal(t, d, n)
		checkPop(t, d, 999999-n)
	}
	checkEmpty(t, d)
}
