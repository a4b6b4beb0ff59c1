package mailbox_test

import (
	"math"
	"slices"
	"testing"

	"spinet/api"
	"spinet/mailbox"
)

// stride is more than any list here has: number i of the k-th list is k*stride + i.
const stride = 1 << 20

// lists are some of these sizes.
func lists(sizes ...int) [][]int {
	var l [][]int
	for k, size := range sizes {
		one := upTo(size)
		for i := range one {
			one[i] += k * stride
		}
		l = append(l, one)
	}
	return l
}

func gathered(t *testing.T, room int, l [][]int) []int {
	t.Helper()
	got, err := mailbox.Gather(room, l)
	if err != nil {
		t.Errorf("Gather at room %d of %d lists: %v", room, len(l), err)
	}
	return got
}

// checkGathered asks that each number of each of these lists is told once, and
// those of one in their order: P16.3.
func checkGathered(t *testing.T, room int, l [][]int) {
	t.Helper()
	got := gathered(t, room, l)
	at := make([]int, len(l))
	for _, n := range got {
		k := n / stride
		if n < 0 || k >= len(l) || at[k] >= len(l[k]) || l[k][at[k]] != n {
			t.Fatalf("Gather at room %d of %d lists told %d, which isn't next", room, len(l), n)
		}
		at[k]++
	}
	for k, one := range l {
		if at[k] != len(one) {
			t.Errorf("Gather at room %d: of list %d there are %d, want %d", room, k, at[k], len(one))
		}
	}
}

// P16.2: at rooms out of range nothing is told but ErrArg itself, whatever lists
// there are.

func TestGatherOutOfRange(t *testing.T) {
	for _, room := range []int{math.MinInt, -1000, -1, 0, 1001, 1002, 1 << 32, 1<<32 + 1, math.MaxInt} {
		for _, l := range [][][]int{nil, {}, {{}}, {{1}}, lists(3, 0, 4)} {
			bubble(t, func(t *testing.T) {
				if got, err := mailbox.Gather(room, l); len(got) > 0 || err != error(api.ErrArg) {
					t.Errorf("Gather(%d, %v) = %v, %v, want none, ErrArg", room, l, got, err)
				}
			})
		}
	}
}

// P16.2: of no lists, and of lists of no numbers, nothing is told.

func TestGatherOfNone(t *testing.T) {
	for _, room := range []int{1, 2, 1000} {
		for _, l := range [][][]int{nil, {}, {nil}, {{}}, {{}, nil, {}}, make([][]int, 100)} {
			bubble(t, func(t *testing.T) {
				if got := gathered(t, room, l); len(got) > 0 {
					t.Errorf("Gather(%d, %v) = %v, want none", room, l, got)
				}
			})
		}
	}
}

// P16.2: of one list it is that one, whatever its numbers are.

func TestGatherOfOne(t *testing.T) {
	for _, room := range []int{1, 2, 3, 1000} {
		for _, one := range [][]int{{5}, {0}, {3, 1, 2}, {0, 0, 0, 0}, {math.MaxInt, -1, math.MinInt}, upTo(2500)} {
			for _, l := range [][][]int{{one}, {nil, one}, {one, {}}, {{}, {}, one, nil}} {
				bubble(t, func(t *testing.T) {
					if got := gathered(t, room, l); !slices.Equal(got, one) {
						t.Errorf("Gather(%d, %v) = %v", room, l, got)
					}
				})
			}
		}
	}
}

// P16.2, P16.3: of several lists, with less room than numbers, and with more.

func TestGather(t *testing.T) {
	for _, room := range []int{1, 2, 3, 10, 999, 1000} {
		for _, sizes := range [][]int{{1, 1}, {2, 3}, {1, 0, 5}, {0, 7, 0, 0, 2}, {100, 1}, {1, 100}, {500, 500, 500}, {1001, 999}, slices.Repeat([]int{4}, 50)} {
			for range 5 {
				bubble(t, func(t *testing.T) { checkGathered(t, room, lists(sizes...)) })
			}
		}
	}
}

// P16.2, P16.3: of many lists at once.

func TestGatherOfMany(t *testing.T) {
	defer limit(t)()
	for _, room := range []int{1, 4, 1000} {
		checkGathered(t, room, lists(slices.Repeat([]int{1}, 20000)...))
		checkGathered(t, room, lists(slices.Repeat([]int{20, 0, 3}, 700)...))
		checkGathered(t, room, lists(slices.Repeat([]int{20000}, 10)...))
	}
}

// P16.3: a number that is in several lists, or more than once in one, is told as
// often.

func TestGatherOfTheSame(t *testing.T) {
	same := []int{7, 7, 0, 7}
	for _, room := range []int{1, 2, 1000} {
		bubble(t, func(t *testing.T) {
			got := gathered(t, room, [][]int{same, {7}, same, same[1:3], {-7, 7}})
			slices.Sort(got)
			if want := []int{-7, 0, 0, 0, 7, 7, 7, 7, 7, 7, 7, 7, 7}; !slices.Equal(got, want) {
				t.Errorf("Gather at room %d told %v, want %v in any order", room, got, want)
			}
		})
	}
}

// P16.2: the lists are pushed at once, not one behind another: sooner or later their
// numbers come by turns.

func TestGatherAtOnce(t *testing.T) {
	defer limit(t)()
	l := lists(3000, 3000)
	for range 1000 {
		if turns(gathered(t, 1, l)) > 2 {
			return
		}
	}
	t.Error("one list was always told behind the other one")
}

// turns are how many runs of numbers of one list there are.
func turns(l []int) int {
	count := 0
	for i, n := range l {
		if i == 0 || l[i-1]/stride != n/stride {
			count++
		}
	}
	return count
}

// wholes are copies of lists with what has room behind their ends.
func wholes(l [][]int) [][]int {
	var whole [][]int
	for _, one := range l[:cap(l)] {
		whole = append(whole, slices.Clone(one[:cap(one)]))
	}
	return whole
}

// roomy are lists with room behind their ends, and something there.
func roomy() [][]int {
	l := append(lists(5, 0, 300, 1), []int{-1, -2})
	for k, one := range l {
		l[k] = slices.Concat(one, []int{-3, -4})[:len(one)]
	}
	return l[:4]
}

// R2: what is handed in stays as it is, with and without an error.

func TestWhatIsHandedInStays(t *testing.T) {
	defer limit(t)()
	for _, room := range []int{1, 2, 1000, 0} {
		l := roomy()
		was := wholes(l)
		for range 20 {
			mailbox.Gather(room, l)
			if is := wholes(l); !slices.EqualFunc(is, was, slices.Equal) {
				t.Fatalf("at room %d %v became %v", room, was, is)
			}
		}
	}
}

// R2: what is told is new memory, and none that pushes goes on behind the answer.

func TestWhatIsToldIsApart(t *testing.T) {
	defer limit(t)()
	for _, room := range []int{1, 2, 1000} {
		l := roomy()
		was := wholes(l)
		first := gathered(t, room, l[:1])
		second := gathered(t, room, l[:1])
		all := gathered(t, room, l)
		spoil(first)
		if is := wholes(l); !slices.EqualFunc(is, was, slices.Equal) {
			t.Errorf("%v became %v", was, is)
		}
		for _, one := range l {
			spoil(one)
		}
		if !slices.Equal(second, upTo(5)) {
			t.Errorf("what was told became %v", second)
		}
		if slices.Contains(all, -9) {
			t.Errorf("what was told became %v", all)
		}
	}
}

// spoil changes all that a list has, and what has room behind its end.
func spoil(l []int) {
	l = l[:cap(l)]
	for i := range l {
		l[i] = -9
	}
}
