package deque_test

import (
	"slices"
	"testing"

	"spinet/deque"
)

// P19.1: a Deque that was emptied, from either end or from both, is as a new one: it is
// empty, and what is pushed then stands there alone.

// empty takes as many as there are; way tells from where.
func empty(t *testing.T, d *deque.Deque[int], way int) {
	t.Helper()
	for k := range d.Len() {
		take := d.Pop
		if way == 1 || way == 2 && k%2 == 0 {
			take = d.Steal
		}
		if _, ok := take(); !ok {
			t.Fatalf("nothing taken where %d are", d.Len())
		}
	}
}

func TestEmptiedAndUsedAgain(t *testing.T) {
	sizes := []int{1, 2, 3, 4, 5, 8, 9, 33}
	for way := range 3 {
		for again := range 3 {
			for _, first := range sizes {
				for _, second := range sizes {
					d := made(t, from(100, first)...)
					empty(t, d, way)
					checkEmpty(t, d)
					l := from(1, second)
					pushAll(t, d, l...)
					checkPop(t, d, second)
					pushAll(t, d, second)
					if again == 0 {
						checkSteal(t, d, l...)
					} else {
						empty(t, d, again)
					}
					checkEmpty(t, d)
					pushAll(t, d, l...)
					slices.Reverse(l)
					checkPop(t, d, l...)
					checkEmpty(t, d)
				}
			}
		}
	}
}

// Again and again: one more each time.

func TestEmptiedAgainAndAgain(t *testing.T) {
	for way := range 3 {
		d := made[int](t)
		for size := range 200 {
			pushAll(t, d, from(1000*size, size)...)
			if size > 1 {
				checkSteal(t, d, 1000*size)
				checkPop(t, d, 1000*size+size-1)
			}
			empty(t, d, way)
			checkEmpty(t, d)
		}
	}
}

// One is pushed, and taken from this end or that one, very often.

func TestOneInTurns(t *testing.T) {
	for way := range 3 {
		d := made[int](t)
		for n := range 100000 {
			pushAll(t, d, n)
			if way == 0 || way == 2 && n%2 == 0 {
				checkPop(t, d, n)
			} else {
				checkSteal(t, d, n)
			}
			if n%1000 == 0 {
				checkEmpty(t, d)
			}
		}
		checkEmpty(t, d)
	}
}
