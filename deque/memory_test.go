package deque_test

import (
	"runtime"
	"testing"
	"weak"

	"spinet/deque"
)

// What is kept is what stands there: what was popped or stolen isn't held on to, and a
// row through which very many go takes no more memory for it.

type large struct {
	number int
	_      [200]int
}

// weakly is a new row of n, with pointers that don't hold on to what is in it.
func weakly(n int) (*deque.Deque[*large], []weak.Pointer[large]) {
	d, l := new(deque.Deque[*large]), make([]weak.Pointer[large], n)
	for i := range l {
		x := &large{number: i}
		d.Push(x)
		l[i] = weak.Make(x)
	}
	return d, l
}

// drop takes so many from the front, and from the back, and forgets them.
func drop(t *testing.T, d *deque.Deque[*large], front, back int) {
	t.Helper()
	size := d.Len()
	for i := range front {
		if x, ok := d.Steal(); !ok || x.number != i {
			t.Fatalf("Steal() = %v, %v, want %d", x, ok, i)
		}
	}
	for i := range back {
		if x, ok := d.Pop(); !ok || x.number != size-1-i {
			t.Fatalf("Pop() = %v, %v, want %d", x, ok, size-1-i)
		}
	}
}

func TestWhatWasTakenIsForgotten(t *testing.T) {
	for _, size := range []int{1, 2, 3, 4, 9} {
		for front := range size + 1 {
			for back := range size - front + 1 {
				d, l := weakly(size)
				drop(t, d, front, back)
				runtime.GC()
				for i, x := range l {
					if there := i >= front && i < size-back; (x.Value() != nil) != there {
						t.Errorf("%d of %d, of which %d are stolen, %d popped: there is %v, want %v", i, size, front, back, !there, there)
					}
				}
				checkLen(t, d, size-front-back)
			}
		}
	}
}

// heap is how much memory is in use.
func heap() uint64 {
	var s runtime.MemStats
	runtime.GC()
	runtime.ReadMemStats(&s)
	return s.HeapAlloc
}

// Of 200000 that go through, of some 1600 bytes each, at most five are there at once.

func TestRowsThatGoOnDoNotGrow(t *testing.T) {
	for _, between := range []int{0, 1, 4} {
		var d deque.Deque[large]
		for n := range between {
			d.Push(large{number: n})
		}
		ahead := heap()
		for n := range 200000 {
			d.Push(large{number: n + between})
			if x, ok := d.Steal(); x.number != n || !ok {
				t.Fatalf("Steal() = %d, %v, want %d, true", x.number, ok, n)
			}
		}
		if behind := heap(); behind > ahead+1<<25 {
			t.Errorf("%d bytes ahead, %d behind, with %d there", ahead, behind, between)
		}
		checkLen(t, &d, between)
	}
}
