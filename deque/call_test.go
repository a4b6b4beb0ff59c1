package deque_test

import (
	"testing"

	"spinet/deque"
)

// Each check of a call asks for Len behind it, too.

// made is a new row with these, the first one in front.
func made[T any](t *testing.T, l ...T) *deque.Deque[T] {
	t.Helper()
	var d deque.Deque[T]
	pushAll(t, &d, l...)
	return &d
}

// pushAll pushes these, in their order.
func pushAll[T any](t *testing.T, d *deque.Deque[T], l ...T) {
	t.Helper()
	size := d.Len()
	for i, x := range l {
		d.Push(x)
		checkLen(t, d, size+i+1)
	}
}

// from are n numbers, from the first on.
func from(first, n int) []int {
	var l []int
	for i := range n {
		l = append(l, first+i)
	}
	return l
}

func checkLen[T any](t *testing.T, d *deque.Deque[T], want int) {
	t.Helper()
	if size := d.Len(); size != want {
		t.Fatalf("Len() = %d, want %d", size, want)
	}
}

// checkPop asks for these, each by a Pop.
func checkPop[T comparable](t *testing.T, d *deque.Deque[T], l ...T) {
	t.Helper()
	size := d.Len()
	for i, want := range l {
		if x, ok := d.Pop(); x != want || !ok {
			t.Fatalf("Pop() = %v, %v, want %v, true", x, ok, want)
		}
		checkLen(t, d, size-i-1)
	}
}

// checkSteal asks for these, each by a Steal.
func checkSteal[T comparable](t *testing.T, d *deque.Deque[T], l ...T) {
	t.Helper()
	size := d.Len()
	for i, want := range l {
		if x, ok := d.Steal(); x != want || !ok {
			t.Fatalf("Steal() = %v, %v, want %v, true", x, ok, want)
		}
		checkLen(t, d, size-i-1)
	}
}

// checkEmpty asks for nothing at either end, again and again.
func checkEmpty[T comparable](t *testing.T, d *deque.Deque[T]) {
	t.Helper()
	var none T
	checkLen(t, d, 0)
	for range 3 {
		if x, ok := d.Pop(); x != none || ok {
			t.Fatalf("Pop() = %v, %v, want nothing, false", x, ok)
		}
		checkLen(t, d, 0)
		if x, ok := d.Steal(); x != none || ok {
			t.Fatalf("Steal() = %v, %v, want nothing, false", x, ok)
		}
		checkLen(t, d, 0)
	}
}
