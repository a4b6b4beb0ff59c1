package deque_test

import (
	"math/rand/v2"
	"testing"

	"spinet/deque"
)

// P19.2: each that was pushed is told once, by Pop or by Steal: none twice, none never,
// and none that wasn't pushed. Each is a number of its own here, or one of few numbers,
// each of which is told as often as it was pushed.

// tally counts how often each number was pushed and isn't told yet.
type tally struct {
	left  []int
	total int
}

func (y *tally) push(d *deque.Deque[int], n int) {
	d.Push(n)
	y.left[n]++
	y.total++
}

// take takes one, of which it asks that it was pushed oftener than it was told.
func (y *tally) take(t *testing.T, d *deque.Deque[int], steal bool) {
	t.Helper()
	call := d.Pop
	if steal {
		call = d.Steal
	}
	n, ok := call()
	if ok != (y.total > 0) || !ok && n != 0 {
		t.Fatalf("%d, %v, where %d are left", n, ok, y.total)
	}
	if !ok {
		return
	}
	if n < 0 || n >= len(y.left) || y.left[n] == 0 {
		t.Fatalf("%d is told, which isn't there", n)
	}
	y.left[n]--
	y.total--
}

func TestEachIsToldOnce(t *testing.T) {
	r := rand.New(rand.NewPCG(19, 2))
	for range 300 {
		kinds := []int{1, 2, 5, 3000}[r.IntN(4)]
		pushes, steals := []int{30, 48, 50, 52, 70, 95}[r.IntN(6)], []int{0, 2, 50, 98, 100}[r.IntN(5)]
		var d deque.Deque[int]
		y := tally{left: make([]int, kinds)}
		next := 0
		for range 3000 {
			if r.IntN(100) < pushes {
				y.push(&d, next%kinds)
				next++
			} else {
				y.take(t, &d, r.IntN(100) < steals)
			}
			checkLen(t, &d, y.total)
		}
		for range y.total {
			y.take(t, &d, r.IntN(100) < steals)
			checkLen(t, &d, y.total)
		}
		checkEmpty(t, &d)
		for n, left := range y.left {
			if left != 0 {
				t.Fatalf("%d is told %d times too seldom", n, left)
			}
		}
	}
}

// What is told by one end isn't told by the other one; what is taken and pushed again
// is told once more.

func TestTakenAndPushedAgain(t *testing.T) {
	d := made(t, 1, 2, 3)
	for range 1000 {
		checkSteal(t, d, 1)
		pushAll(t, d, 1)
		checkSteal(t, d, 2)
		pushAll(t, d, 2)
		checkSteal(t, d, 3)
		pushAll(t, d, 3)
	}
	checkPop(t, d, 3, 2)
	pushAll(t, d, 3)
	checkSteal(t, d, 1, 3)
	checkEmpty(t, d)
}
