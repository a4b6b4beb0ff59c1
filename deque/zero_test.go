package deque_test

import (
	"testing"

	"spinet/deque"
)

// P19.1: a zero Deque is empty: its Len is 0, and Pop and Steal tell a zero T and false,
// whichever is called first, and however often.

func TestZeroDeque(t *testing.T) {
	checkLen(t, new(deque.Deque[int]), 0)
	checkEmpty(t, new(deque.Deque[int]))
	for row := range 1 << 10 {
		var d deque.Deque[string]
		for bit := range 10 {
			call := d.Pop
			if row>>bit&1 == 1 {
				call = d.Steal
			}
			if x, ok := call(); x != "" || ok {
				t.Fatalf("row %d: call %d told %q, %v", row, bit, x, ok)
			}
			checkLen(t, &d, 0)
		}
		pushAll(t, &d, "a", "b")
		checkSteal(t, &d, "a")
		checkPop(t, &d, "b")
		checkEmpty(t, &d)
	}
}

func TestZeroDequeVeryOften(t *testing.T) {
	var d deque.Deque[int]
	for range 100000 {
		checkEmpty(t, &d)
	}
	pushAll(t, &d, 5, 6)
	checkSteal(t, &d, 5, 6)
	checkEmpty(t, &d)
}

// A zero Deque is one, wherever it stands: none of these calls made them.

func TestZeroDequesInThings(t *testing.T) {
	type pair struct{ one, two deque.Deque[int] }
	var p pair
	row := [3]deque.Deque[int]{}
	l := make([]deque.Deque[int], 3)
	for i, d := range []*deque.Deque[int]{&p.one, &p.two, &row[0], &row[2], &l[0], &l[2], {}} {
		checkEmpty(t, d)
		pushAll(t, d, i, i+1, i+2)
	}
	for i, d := range []*deque.Deque[int]{&p.one, &p.two, &row[0], &row[2], &l[0], &l[2]} {
		checkSteal(t, d, i)
		checkPop(t, d, i+2, i+1)
		checkEmpty(t, d)
	}
	checkEmpty(t, &row[1])
	checkEmpty(t, &l[1])
}
