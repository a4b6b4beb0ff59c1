package deque_test

import (
	"errors"
	"math"
	"slices"
	"strings"
	"testing"

	"spinet/api"
	"spinet/deque"
)

// P19.1: likewise of any T. A zero T, pushed, is there as any other: it is told with
// true; what Pop and Steal tell beside false is a zero T, whatever stood there.

// checkType pushes these, of which none need differ, and asks for them from both ends.
// same tells whether two are the same, as not every T can be compared by ==.
func checkType[T any](t *testing.T, same func(a, b T) bool, l ...T) {
	t.Helper()
	var zero T
	l = append(slices.Clone(l), zero, zero)
	l = append([]T{zero}, l...)
	for k := range len(l) + 1 {
		var d deque.Deque[T]
		checkNone(t, &d, same)
		for range 3 {
			pushAll(t, &d, l...)
			for i, want := range l[:k] {
				x, ok := d.Steal()
				checkOne(t, same, x, ok, want)
				checkLen(t, &d, len(l)-i-1)
			}
			for i := len(l) - 1; i >= k; i-- {
				x, ok := d.Pop()
				checkOne(t, same, x, ok, l[i])
				checkLen(t, &d, i-k)
			}
			checkNone(t, &d, same)
		}
	}
}

func checkOne[T any](t *testing.T, same func(a, b T) bool, x T, ok bool, want T) {
	t.Helper()
	if !same(x, want) || !ok {
		t.Fatalf("%v, %v, want %v, true", x, ok, want)
	}
}

func checkNone[T any](t *testing.T, d *deque.Deque[T], same func(a, b T) bool) {
	t.Helper()
	var zero T
	for _, call := range []func() (T, bool){d.Pop, d.Steal, d.Pop} {
		if x, ok := call(); !same(x, zero) || ok {
			t.Fatalf("%v, %v, want %v, false", x, ok, zero)
		}
		checkLen(t, d, 0)
	}
}

func equal[T comparable](a, b T) bool { return a == b }

func TestNumbers(t *testing.T) {
	checkType(t, equal, 1, -1, 0, math.MaxInt, math.MinInt, 1)
	checkType[int64](t, equal, 1, -1, 0, math.MaxInt64, math.MinInt64)
	checkType[uint8](t, equal, 1, 0, 255, 128, 127)
	checkType[uint64](t, equal, 1, 0, math.MaxUint64, 1<<63)
	checkType[rune](t, equal, 'a', 0, -1, 0x10ffff)
	checkType(t, equal, 0.5, -0.5, 0, math.Inf(1), math.Inf(-1), math.MaxFloat64)
	checkType(t, equal, 1i, 2+3i, 0)
	checkType(t, equal, api.ErrArg, api.ErrLimit, 0)
}

// Of floats each is told as it was pushed, bit by bit: a NaN is, and a zero below 0.

func TestFloats(t *testing.T) {
	bits := func(a, b float64) bool { return math.Float64bits(a) == math.Float64bits(b) }
	checkType(t, bits, math.NaN(), math.Copysign(0, -1), 0, math.NaN())
}

func TestTruths(t *testing.T) {
	checkType(t, equal, true, false, true, true)
	checkType(t, equal, false)
}

func TestTexts(t *testing.T) {
	checkType(t, equal, "a", "", "b", "\x00", "\xff", "ä", strings.Repeat("long ", 1000), "a")
}

func TestStructs(t *testing.T) {
	checkType(t, equal, api.Timer{Id: 1, At: 2, What: 3}, api.Timer{}, api.Timer{What: -1})
	checkType(t, equal, api.Tok{Kind: api.Num, N: 5, At: 1}, api.Tok{})
	checkType(t, equal, api.Act{Kind: api.Log, Expr: "a"}, api.Act{Expr: "a"}, api.Act{})
	checkType(t, equal, struct{}{}, struct{}{})
	type deep struct {
		name string
		in   struct{ one, two [2]int }
	}
	a, b := deep{name: "a"}, deep{}
	b.in.two[1] = 5
	checkType(t, equal, a, b, deep{})
}

// A struct's lists are told as they were pushed: none is copied, none left out.

func TestStructsWithLists(t *testing.T) {
	same := func(a, b api.Run) bool {
		return a.Conf == b.Conf && a.Status == b.Status &&
			slices.Equal(a.Hist, b.Hist) && slices.Equal(a.Env, b.Env) && slices.Equal(a.Inner, b.Inner)
	}
	checkType(t, same, api.Run{Conf: 3, Hist: []uint32{0, 1}, Env: []int64{-1}, Status: api.Going}, api.Run{Inner: []int{7}}, api.Run{})
}

func TestArrays(t *testing.T) {
	checkType(t, equal, [3]int{1, 2, 3}, [3]int{}, [3]int{0, 0, 1})
	checkType(t, equal, [0]int{}, [0]int{})
	checkType(t, equal, [1000]int64{999: 1}, [1000]int64{0: 1})
}

// Pointers are told themselves: not another one to the same, nor one to a copy. A nil
// one is there, too.

func TestPointers(t *testing.T) {
	a, b, c := 5, 5, 0
	checkType(t, equal, &a, &b, nil, &c, &a)
	var d deque.Deque[*int]
	pushAll(t, &d, &a, &b)
	a = 6
	x, _ := d.Steal()
	if *x = 7; a != 7 || b != 5 {
		t.Error("a pointer is told that isn't the one that was pushed")
	}
}

func TestSlices(t *testing.T) {
	checkType(t, slices.Equal[[]int], []int{1, 2}, nil, []int{3}, []int{})
	nils := func(a, b []int) bool { return (a == nil) == (b == nil) && slices.Equal(a, b) }
	checkType(t, nils, []int{}, nil, []int{0})
	l := []int{1, 2, 3}
	var d deque.Deque[[]int]
	pushAll(t, &d, l[:2], l[1:])
	x, _ := d.Pop()
	y, _ := d.Steal()
	if &x[0] != &l[1] || &y[0] != &l[0] || len(x) != 2 || len(y) != 2 || cap(y) != 3 {
		t.Errorf("%v and %v are told, which aren't those that were pushed", x, y)
	}
	if !slices.Equal(l, []int{1, 2, 3}) {
		t.Errorf("what was pushed became %v", l)
	}
}

func TestMaps(t *testing.T) {
	same := func(a, b map[int]int) bool { return (a == nil) == (b == nil) && a[1] == b[1] && len(a) == len(b) }
	checkType(t, same, map[int]int{1: 2}, nil, map[int]int{}, map[int]int{1: 3})
}

func TestFunctions(t *testing.T) {
	same := func(a, b func() int) bool { return (a == nil) == (b == nil) && (a == nil || a() == b()) }
	checkType(t, same, func() int { return 1 }, nil, func() int { return 2 })
}

func TestChannels(t *testing.T) {
	checkType(t, equal, make(chan int), nil, make(chan int, 5))
}

// Of interfaces a zero one is nil; one that holds something's zero value isn't.

func TestInterfaces(t *testing.T) {
	checkType(t, equal, any(1), nil, any("a"), any(0), any(""), any(struct{}{}), any((*int)(nil)))
	checkType(t, equal, error(api.ErrFull), nil, errors.New("a"), errors.New("a"), error(api.Code(0)))
}

// Even rows are: of pointers to others, of themselves, and of a type that has them.

func TestRowsOfRows(t *testing.T) {
	one, two := made(t, 1), made(t, 2, 3)
	checkType(t, equal, one, two, nil, one)
	checkSteal(t, one, 1)
	type node struct {
		number int
		below  deque.Deque[node]
	}
	var top node
	for n := range 3 {
		below := node{number: n}
		pushAll(t, &below.below, node{number: 10 * n}, node{number: 10*n + 1})
		pushAll(t, &top.below, below)
	}
	for n := range 3 {
		below, ok := top.below.Steal()
		last, also := below.below.Pop()
		if !ok || !also || below.number != n || last.number != 10*n+1 || below.below.Len() != 1 {
			t.Errorf("%d: %v, %v, %v, %v", n, below.number, ok, last.number, also)
		}
	}
	checkLen(t, &top.below, 0)
}
