package deque_test

import (
	"strconv"
	"testing"

	"spinet/deque"
)

// P19.1: each Deque has its own: what is done with one changes no other.

func TestTwoBesideEachOther(t *testing.T) {
	var one, two deque.Deque[int]
	pushAll(t, &one, 1, 2)
	checkEmpty(t, &two)
	pushAll(t, &two, 3)
	pushAll(t, &one, 4)
	checkLen(t, &two, 1)
	checkSteal(t, &one, 1)
	checkLen(t, &two, 1)
	checkPop(t, &two, 3)
	checkEmpty(t, &two)
	checkLen(t, &one, 2)
	pushAll(t, &two, 5, 6)
	checkPop(t, &one, 4, 2)
	checkEmpty(t, &one)
	checkSteal(t, &two, 5, 6)
	checkEmpty(t, &two)
}

// Of several types, too.

func TestTypesBesideEachOther(t *testing.T) {
	var numbers deque.Deque[int]
	var texts deque.Deque[string]
	for n := range 100 {
		pushAll(t, &numbers, n)
		pushAll(t, &texts, strconv.Itoa(n), "b")
		checkPop(t, &texts, "b")
		checkLen(t, &numbers, n+1)
	}
	checkSteal(t, &numbers, from(0, 100)...)
	checkEmpty(t, &numbers)
	checkLen(t, &texts, 100)
	for n := range 100 {
		checkSteal(t, &texts, strconv.Itoa(n))
	}
	checkEmpty(t, &texts)
}

// Many stand beside each other, one a worker, say: what one steals from the next one it
// pushes to its own, until it has been to all of them.

func TestManyBesideEachOther(t *testing.T) {
	l := make([]deque.Deque[int], 8)
	for i := range l {
		pushAll(t, &l[i], from(100*i, 50)...)
	}
	for round := range 8 {
		for n := range 50 {
			for i := range l {
				first := 100 * ((i + round) % 8)
				checkSteal(t, &l[i], first+n)
				pushAll(t, &l[(i+7)%8], first+n)
			}
		}
	}
	for i := range l {
		checkSteal(t, &l[i], from(100*i, 50)...)
		checkEmpty(t, &l[i])
	}
}
