package deque_test

import (
	"math/rand/v2"
	"strconv"
	"testing"

	"spinet/deque"
)

// model is a row as the chapter tells of it, with the front first.
type model[T any] []T

func (m *model[T]) pop() (T, bool) {
	if len(*m) == 0 {
		var none T
		return none, false
	}
	x := (*m)[len(*m)-1]
	*m = append(model[T]{}, (*m)[:len(*m)-1]...)
	return x, true
}

func (m *model[T]) steal() (T, bool) {
	if len(*m) == 0 {
		var none T
		return none, false
	}
	x := (*m)[0]
	*m = append(model[T]{}, (*m)[1:]...)
	return x, true
}

// Calls of a row.
const (
	push = iota
	pop
	steal
)

// do makes a call of a row and of the model; a push pushes x. It tells whether both
// tell the same.
func (m *model[T]) do(d *deque.Deque[T], call int, x T, same func(a, b T) bool) bool {
	switch call {
	case push:
		d.Push(x)
		*m = append(*m, x)
	case pop:
		got, ok := d.Pop()
		want, is := m.pop()
		if !same(got, want) || ok != is {
			return false
		}
	case steal:
		got, ok := d.Steal()
		want, is := m.steal()
		if !same(got, want) || ok != is {
			return false
		}
	}
	return d.Len() == len(*m)
}

// checkCalls makes these of a new row, of which the n-th pushes of(n); in the end all
// are taken in the way last, and one more.
func checkCalls[T comparable](t *testing.T, l []int, last int, of func(n int) T) {
	t.Helper()
	var d deque.Deque[T]
	var m model[T]
	for n, call := range l {
		if !m.do(&d, call, of(n), equal) {
			t.Fatalf("call %d of %v", n, l)
		}
	}
	for range len(m) + 1 {
		if !m.do(&d, last, of(0), equal) {
			t.Fatalf("call %d, behind %v", last, l)
		}
	}
}

// All rows of up to eleven calls.

func TestAllRowsOfCalls(t *testing.T) {
	for size := range 12 {
		l := make([]int, size)
		for more := true; more; more = goOn(l, 3) {
			checkCalls(t, l, pop, func(n int) int { return n + 1 })
			checkCalls(t, l, steal, func(n int) int { return n + 1 })
		}
	}
}

// goOn makes the next row of as many numbers, all below n; false, if that was the
// last one.
func goOn(l []int, n int) bool {
	for i := range l {
		l[i]++
		if l[i] < n {
			return true
		}
		l[i] = 0
	}
	return false
}

// drawn are many calls; now and then it changes how often each is made, so that the
// row grows and shrinks.
func drawn(r *rand.Rand, size int) []int {
	l := make([]int, size)
	pushes, pops := 50, 25
	for i := range l {
		if r.IntN(60) == 0 {
			pushes = []int{5, 30, 48, 50, 52, 70, 95}[r.IntN(7)]
			pops = []int{0, 1, 2, 3, 4}[r.IntN(5)] * (100 - pushes) / 4
		}
		switch k := r.IntN(100); {
		case k < pushes:
			l[i] = push
		case k < pushes+pops:
			l[i] = pop
		default:
			l[i] = steal
		}
	}
	return l
}

// Many longer rows of calls, of several types.

func TestLongRowsOfCalls(t *testing.T) {
	r := rand.New(rand.NewPCG(19, 1))
	pointers := make([]*int, 3000)
	for i := range pointers {
		pointers[i] = new(i % 7)
	}
	for range 400 {
		l, last := drawn(r, 50+r.IntN(2900)), pop+r.IntN(2)
		checkCalls(t, l, last, func(n int) int { return n + 1 })
		checkCalls(t, l, last, func(n int) uint8 { return uint8(n) })
		checkCalls(t, l, last, strconv.Itoa)
		checkCalls(t, l, last, func(n int) [3]int { return [3]int{n % 2, -n, n} })
		checkCalls(t, l, last, func(n int) *int { return pointers[n] })
		checkCalls(t, l, last, func(n int) any {
			if n%3 == 0 {
				return nil
			}
			return n
		})
	}
}
