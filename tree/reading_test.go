package tree_test

import (
	"math/bits"
	"slices"
	"testing"

	"spinet/api"
	"spinet/chart"
	"spinet/tree"
)

// A second reading of the chapter: what is in a state stands right behind it, so
// that of each state it is enough to know how deep it stands, and where what is
// in it ends. No way from Parent to Parent is gone.

// reading is a chart that may be, with how many states each one is in, and the
// number behind the last one that is in it.
type reading struct {
	api.Chart
	depth, end []int
}

func read(c api.Chart) reading {
	r := reading{Chart: c}
	for s, one := range c.States {
		if s == 0 {
			r.depth = append(r.depth, 0)
		} else {
			r.depth = append(r.depth, r.depth[one.Parent]+1)
		}
	}
	for s := range c.States {
		end := s + 1
		for end < len(c.States) && r.depth[end] > r.depth[s] {
			end++
		}
		r.end = append(r.end, end)
	}
	return r
}

func (r reading) has(s int) bool { return 0 <= s && s < len(r.States) }

func (r reading) in(a, b int) bool { return r.has(a) && r.has(b) && b < a && a < r.end[b] }

func (r reading) is(s int, kinds ...int) bool { return slices.Contains(kinds, r.States[s].Kind) }

// those are all states for which that holds, rising.
func (r reading) those(holds func(int) bool) []int {
	var l []int
	for s := range r.States {
		if holds(s) {
			l = append(l, s)
		}
	}
	return l
}

func (r reading) up(s int) []int {
	l := r.those(func(b int) bool { return r.in(s, b) })
	slices.Reverse(l)
	return l
}

func (r reading) below(s int) []int {
	return r.those(func(a int) bool { return r.in(a, s) && !r.is(a, api.Shallow, api.Deep) })
}

func (r reading) kids(s int) []int {
	return r.those(func(a int) bool {
		return r.in(a, s) && !r.is(a, api.Shallow, api.Deep) && r.depth[a] == r.depth[s]+1
	})
}

// join is the last one of them: what all are in is in each other.
func (r reading) join(l []int) int {
	found := -1
	for _, b := range r.those(func(s int) bool { return r.is(s, api.Compound) }) {
		if len(l) > 0 && !slices.ContainsFunc(l, func(a int) bool { return !r.in(a, b) }) {
			found = b
		}
	}
	return found
}

func (r reading) leaves(of uint32) []int {
	return r.those(func(s int) bool { return of>>s&1 == 1 && r.is(s, api.Atomic, api.Final) })
}

// checkByReading holds what a tree tells of each state, of one ahead of them and
// of one behind them, and of each pair, against the reading.
func checkByReading(t *testing.T, one *tree.Tree, r reading) {
	t.Helper()
	n := len(r.States)
	for a := -1; a <= n; a++ {
		kind := 0
		if r.has(a) {
			kind = r.States[a].Kind
		}
		if one.Kind(a) != kind || !slices.Equal(one.Up(a), r.up(a)) || one.Below(a) != set(r.below(a)...) || one.Kids(a) != set(r.kids(a)...) {
			t.Fatalf("of %d in %v: Kind %d, Up %v, Below %b, Kids %b", a, r.States, one.Kind(a), one.Up(a), one.Below(a), one.Kids(a))
		}
		checkJoinByReading(t, one, r, a)
		for b := -1; b <= n; b++ {
			if one.In(a, b) != r.in(a, b) {
				t.Fatalf("In(%d, %d) = %v in %v", a, b, one.In(a, b), r.States)
			}
			checkJoinByReading(t, one, r, a, b)
		}
	}
}

func checkJoinByReading(t *testing.T, one *tree.Tree, r reading, l ...int) {
	t.Helper()
	if got, want := one.Join(l), r.join(l); got != want {
		t.Fatalf("Join(%v) = %d, want %d, in %v", l, got, want, r.States)
	}
}

func checkLeavesByReading(t *testing.T, one *tree.Tree, r reading, of uint32) {
	t.Helper()
	if got, want := one.Leaves(of), r.leaves(of); !slices.Equal(got, want) {
		t.Fatalf("Leaves(%b) = %v, want %v, in %v", of, got, want, r.States)
	}
}

// P7.4: In is an order; what is in a state is Below it, but for histories; and
// Below has nothing else.

func checkOrder(t *testing.T, one *tree.Tree, n int) {
	t.Helper()
	for a := range n {
		if one.In(a, a) {
			t.Fatalf("%d is in itself", a)
		}
		for b := range n {
			if one.In(a, b) && one.In(b, a) {
				t.Fatalf("%d and %d are in each other", a, b)
			}
			if isBelow := one.Below(b)>>a&1 == 1; isBelow != (one.In(a, b) && !isHistory(one.Kind(a))) {
				t.Fatalf("In(%d, %d) = %v, Below %v, Kind %d", a, b, one.In(a, b), isBelow, one.Kind(a))
			}
			for c := range n {
				if one.In(a, b) && one.In(b, c) && !one.In(a, c) {
					t.Fatalf("%d is in %d, %d in %d, %d not in %d", a, b, b, c, a, c)
				}
			}
		}
	}
}

// What some are joined in each of them is in; and no other Compound that each of
// them is in is in that.

func checkJoined(t *testing.T, one *tree.Tree, n int, l ...int) {
	t.Helper()
	inAll := func(s int) bool {
		return !slices.ContainsFunc(l, func(a int) bool { return !one.In(a, s) })
	}
	joined := one.Join(l)
	if joined >= 0 && (!inAll(joined) || one.Kind(joined) != api.Compound) {
		t.Fatalf("Join(%v) = %d: no Compound, or one isn't in it", l, joined)
	}
	for s := range n {
		if inAll(s) && one.Kind(s) == api.Compound && s != joined && !one.In(joined, s) {
			t.Fatalf("Join(%v) = %d, but all are in %d", l, joined, s)
		}
	}
}

func TestOrder(t *testing.T) {
	for _, s := range []string{smallest, rich, chain(), mixed(), flat()} {
		c := drawn(s)
		one := planted(t, c)
		n := len(c.States)
		checkOrder(t, one, n)
		for a := range n {
			checkJoined(t, one, n, a)
			for b := range n {
				checkJoined(t, one, n, a, b)
				checkJoined(t, one, n, a, b, n-1)
			}
		}
	}
}

// P7.1, P7.2, P7.4: all charts of up to six states, of each Kind; of those that
// may be each row of up to three to Join, and each set of their states, with
// others or without, to Leaves.

func TestAllSmallCharts(t *testing.T) {
	may, not := 0, 0
	for size := 1; size <= 6; size++ {
		growAll([]api.State{{Kind: api.Compound, Parent: -1}}, size, func(c api.Chart) {
			if err := chart.Check(c); err != nil {
				not++
				checkNoTree(t, c, err)
				return
			}
			may++
			one := planted(t, c)
			checkSmall(t, one, read(c))
			checkChart(t, one, c)
		})
	}
	if may < 2000 || not < 100_000 {
		t.Errorf("%d charts that may be, %d that may not", may, not)
	}
}

// growAll hands on all charts of so many states that begin with these, each of
// the others in the one ahead of it, or in one that that is in.
func growAll(states []api.State, size int, check func(api.Chart)) {
	if len(states) == size {
		c := api.Chart{States: slices.Clone(states)}
		begin(c)
		check(c)
		return
	}
	for parent := len(states) - 1; parent >= 0; parent = states[parent].Parent {
		for kind := api.Atomic; kind <= api.Deep; kind++ {
			growAll(append(slices.Clip(states), api.State{Kind: kind, Parent: parent}), size, check)
		}
	}
}

func checkSmall(t *testing.T, one *tree.Tree, r reading) {
	t.Helper()
	n := len(r.States)
	checkByReading(t, one, r)
	checkOrder(t, one, n)
	for a := range n {
		for b := range n {
			for c := -1; c <= n; c++ {
				checkJoinByReading(t, one, r, a, b, c)
			}
		}
	}
	for of := range uint32(1) << n {
		checkLeavesByReading(t, one, r, of)
		checkLeavesByReading(t, one, r, of|^uint32(0)<<n)
	}
}

// Greater charts, by a fixed rule, with rows and sets by that rule, too.

func TestGreaterCharts(t *testing.T) {
	kinds := map[int]int{}
	for seed := range uint32(1500) {
		m := maker{x: seed*2654435761 + 1}
		r := read(m.chart(2 + int(seed%23)))
		n := len(r.States)
		for _, one := range r.States {
			kinds[one.Kind]++
		}
		one := planted(t, r.Chart)
		checkByReading(t, one, r)
		for range 40 {
			checkLeavesByReading(t, one, r, m.set())
			l := m.row(n)
			checkJoinByReading(t, one, r, l...)
			checkJoined(t, one, n, l...)
		}
		if seed%50 == 0 {
			checkOrder(t, one, n)
		}
	}
	for kind := api.Atomic; kind <= api.Deep; kind++ {
		if kinds[kind] < 500 {
			t.Errorf("just %d states of Kind %d", kinds[kind], kind)
		}
	}
}

// maker makes charts, rows and sets by a fixed rule.
type maker struct{ x uint32 }

func (m *maker) below(n int) int {
	m.x = m.x*1664525 + 1013904223
	return int(m.x>>16) % n
}

func (m *maker) set() uint32 { return uint32(m.below(1<<16))<<16 | uint32(m.below(1<<16)) }

// row is one of one to four states, now and then with one that isn't there.
func (m *maker) row(n int) []int {
	l := make([]int, 1+m.below(4))
	for i := range l {
		l[i] = 1 + m.below(n-1)
	}
	if m.below(8) == 0 {
		l[m.below(len(l))] = m.below(40) - 8
	}
	return l
}

// chart is one of so many states that may be.
func (m *maker) chart(size int) api.Chart {
	c := api.Chart{States: []api.State{{Kind: api.Compound, Parent: -1}}}
	kids := make([]int, size)
	for s := 1; s < size; s++ {
		parent := s - 1
		for parent > 0 && m.below(2) == 0 {
			parent = c.States[parent].Parent
		}
		kids[parent]++
		c.States = append(c.States, api.State{Kind: api.Compound + m.below(2), Parent: parent})
	}
	// From the last state on, so that a last child that is no history is left.
	spare := slices.Clone(kids)
	for s := size - 1; s > 0; s-- {
		if kids[s] == 0 {
			c.States[s].Kind = m.childless(c, s, spare)
		}
	}
	begin(c)
	return c
}

// childless is a Kind of a state that has no children; spare tells how many
// children of each state may still be no histories.
func (m *maker) childless(c api.Chart, s int, spare []int) int {
	parent := c.States[s].Parent
	kinds := []int{api.Atomic}
	if c.States[parent].Kind == api.Compound {
		kinds = append(kinds, api.Final)
	}
	if parent > 0 && spare[parent] > 1 {
		kinds = append(kinds, api.Shallow, api.Deep)
	}
	kind := kinds[m.below(len(kinds))]
	if isHistory(kind) {
		spare[parent]--
	}
	return kind
}

// P1, P7.2: whatever numbers there are, and whatever set.

func FuzzTree(f *testing.F) {
	f.Add(uint32(1), 0, -1, 23, uint32(1<<32-1))
	f.Add(uint32(77), 1<<62, -1<<63, 1<<63-1, uint32(0))
	f.Fuzz(func(t *testing.T, seed uint32, a, b, c int, of uint32) {
		m := maker{x: seed}
		r := read(m.chart(2 + m.below(23)))
		one := planted(t, r.Chart)
		checkByReading(t, one, r)
		checkLeavesByReading(t, one, r, of)
		checkJoinByReading(t, one, r, a, b, c)
		for _, s := range []int{a, b, c} {
			if !slices.Equal(one.Up(s), r.up(s)) || bits.OnesCount32(one.Below(s)) != len(r.below(s)) || one.Kids(s) != set(r.kids(s)...) {
				t.Errorf("of %d in %v: Up %v, Below %b, Kids %b", s, r.States, one.Up(s), one.Below(s), one.Kids(s))
			}
			if one.In(s, a) != r.in(s, a) || (one.Kind(s) != 0) != r.has(s) {
				t.Errorf("of %d in %v: In(.., %d) %v, Kind %d", s, r.States, a, one.In(s, a), one.Kind(s))
			}
		}
	})
}
