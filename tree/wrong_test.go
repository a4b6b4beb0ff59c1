package tree_test

import (
	"slices"
	"testing"

	"spinet/tree"
)

// eachNowhere hands on trees, how many states each has, and each number of no
// state.
func eachNowhere(t *testing.T, check func(one *tree.Tree, n, s int)) {
	t.Helper()
	for _, text := range []string{smallest, rich, chain(), mixed(), flat()} {
		c := drawn(text)
		one := planted(t, c)
		for _, s := range nowhere(len(c.States)) {
			check(one, len(c.States), s)
		}
	}
}

// P7.1, P7.2, P1: of states that aren't there: none, false, nothing.

func TestNoSuchState(t *testing.T) {
	eachNowhere(t, func(one *tree.Tree, n, s int) {
		if got := one.Kind(s); got != 0 {
			t.Errorf("%d states: Kind(%d) = %d, want 0", n, s, got)
		}
		if got := one.Up(s); len(got) != 0 {
			t.Errorf("%d states: Up(%d) = %v, want none", n, s, got)
		}
		if got := one.Below(s); got != 0 {
			t.Errorf("%d states: Below(%d) = %b, want none", n, s, got)
		}
		if got := one.Kids(s); got != 0 {
			t.Errorf("%d states: Kids(%d) = %b, want none", n, s, got)
		}
	})
}

// At each place of In.

func TestNoSuchStateIsInNothing(t *testing.T) {
	eachNowhere(t, func(one *tree.Tree, n, s int) {
		for other := range n {
			if one.In(s, other) || one.In(other, s) {
				t.Errorf("%d states: In(%d, %d) = %v, the other way round %v", n, s, other, one.In(s, other), one.In(other, s))
			}
		}
		for _, other := range nowhere(n) {
			if one.In(s, other) {
				t.Errorf("%d states: In(%d, %d)", n, s, other)
			}
		}
	})
}

// At each place of Join's row.

func TestNoSuchStateIsJoinedInNothing(t *testing.T) {
	eachNowhere(t, func(one *tree.Tree, n, s int) {
		checkJoin(t, one, -1, s)
		checkJoin(t, one, -1, s, s)
		for size := 2; size <= 5; size++ {
			for at := range size {
				for _, other := range []int{0, 1, n / 2, n - 1} {
					l := slices.Repeat([]int{other}, size)
					l[at] = s
					checkJoin(t, one, -1, l...)
				}
			}
		}
	})
}

// What isn't there changes nothing for what is.

func TestStatesStayAmongWrongNumbers(t *testing.T) {
	r := read(drawn(rich))
	one := planted(t, r.Chart)
	for _, s := range nowhere(len(r.States)) {
		one.Kind(s)
		one.Up(s)
		one.In(s, 6)
		one.In(6, s)
		one.Below(s)
		one.Kids(s)
		one.Join([]int{6, s})
		one.Leaves(uint32(s))
		checkByReading(t, one, r)
	}
}
