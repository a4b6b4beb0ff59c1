package leave_test

import (
	"slices"
	"testing"

	"spinet/api"
	"spinet/enter"
	"spinet/leave"
	"spinet/tree"
)

// A second reading of the chapter. Of each state it is enough to know where what
// is in it ends, as it stands right behind it: what some are joined in is the
// last Compound that begins ahead of the first of them, and ends behind the last
// one; and what is left of a set is a piece of it.

// reading is a chart that may be, with the number behind the last state that is
// in each.
type reading struct {
	api.Chart
	end []int
}

func read(c api.Chart) reading {
	r := reading{Chart: c, end: make([]int, len(c.States))}
	for s := len(c.States) - 1; s >= 0; s-- {
		r.end[s] = max(r.end[s], s+1)
		if s > 0 {
			outer := c.States[s].Parent
			r.end[outer] = max(r.end[outer], r.end[s])
		}
	}
	return r
}

// spans is whether all from the first to the last of a row are in a state.
func (r reading) spans(s int, l []int) bool { return s < slices.Min(l) && slices.Max(l) < r.end[s] }

func (r reading) isA(s, kind int) bool { return r.States[s].Kind == kind }

func (r reading) counted(s int) int {
	if isHistory(r.States[s].Kind) {
		return r.States[s].Parent
	}
	return s
}

func (r reading) reach(i int) int {
	if i < 0 || i >= len(r.Trans) || len(r.Trans[i].Targets) == 0 {
		return -1
	}
	one := r.Trans[i]
	var l []int
	for _, s := range one.Targets {
		l = append(l, r.counted(s))
	}
	if one.Internal && r.isA(one.Source, api.Compound) && r.spans(one.Source, l) {
		return one.Source
	}
	return r.joined(append(l, one.Source))
}

// joined is -1, if no Compound spans these.
func (r reading) joined(l []int) int {
	for s := slices.Min(l) - 1; s >= 0; s-- {
		if r.isA(s, api.Compound) && r.spans(s, l) {
			return s
		}
	}
	return -1
}

func (r reading) left(of uint32, i int) uint32 {
	reach := r.reach(i)
	if reach < 0 {
		return 0
	}
	return of & (1<<r.end[reach] - 1) >> (reach + 1) << (reach + 1)
}

// checkByReading holds a transition's reach, and what it leaves of this set,
// against the reading.
func checkByReading(t *testing.T, one *tree.Tree, r reading, of uint32, i int) {
	t.Helper()
	reach := leave.Reach(one, i)
	if want := r.reach(i); reach != want {
		t.Fatalf("Reach(%d) = %d, want %d%s, in %v", i, reach, want, about(one, i), r.States)
	}
	left := leave.Set(one, of, i)
	if want := r.left(of, i); left != want {
		t.Fatalf("Set(%v, %d) = %v, want %v%s, in %v", members(of), i, members(left), members(want), about(one, i), r.States)
	}
	checkWhatIsLeft(t, one, of, left, reach)
}

// P9.3: what is left is of the set, and in the reach; and nothing else of the set
// is.

func checkWhatIsLeft(t *testing.T, one *tree.Tree, of, left uint32, reach int) {
	t.Helper()
	if left&^of != 0 {
		t.Fatalf("of %v left is %v", members(of), members(left))
	}
	for _, s := range members(of) {
		if one.In(s, reach) != (left>>s&1 == 1) {
			t.Fatalf("of %v left is %v, in %d: not so of %d", members(of), members(left), reach, s)
		}
	}
}

func checkClashByReading(t *testing.T, one *tree.Tree, r reading, of uint32, i, k int) {
	t.Helper()
	want := r.left(of, i)&r.left(of, k) != 0
	if got := leave.Clash(one, of, i, k); got != want {
		t.Fatalf("Clash(%v, %d, %d) = %v%s%s, in %v", members(of), i, k, got, about(one, i), about(one, k), r.States)
	}
}

// P9.3: what each Target really is is in the reach, whatever its histories' sets
// are, if they are such as layer 8's chapter says something of.

func checkTargets(t *testing.T, one *tree.Tree, c api.Chart, hist []uint32, i int) {
	t.Helper()
	reach := leave.Reach(one, i)
	for _, s := range enter.Real(one, hist, c.Trans[i].Targets) {
		if !one.In(s, reach) {
			t.Fatalf("Reach(%d) = %d, but %d isn't in it: %v, in %v%s", i, reach, s, hist, c.States, about(one, i))
		}
	}
	entered := enter.Set(one, hist, reach, c.Trans[i].Targets)
	if entered&^one.Below(reach) != 0 {
		t.Fatalf("Reach(%d) = %d, but %v are entered: %v, in %v%s", i, reach, members(entered), hist, c.States, about(one, i))
	}
}

// mayBe are all transitions of a chart: from each Source, to each row of up to
// three Targets (of those with three the rising and the falling ones), without
// Internal and with it.
func (r reading) mayBe() []api.Trans {
	var all []api.Trans
	rows := r.rows()
	for _, s := range r.sources() {
		for _, row := range rows {
			all = append(all, to(s, row...), within(s, row...))
		}
	}
	return all
}

func (r reading) sources() []int {
	var l []int
	for s := 1; s < len(r.States); s++ {
		if r.States[s].Kind <= api.Parallel {
			l = append(l, s)
		}
	}
	return l
}

func (r reading) rows() [][]int {
	n := len(r.States)
	rows := [][]int{nil}
	for a := 1; a < n; a++ {
		rows = append(rows, []int{a})
		for b := a + 1; b < n; b++ {
			if !r.areApart(a, b) {
				continue
			}
			rows = append(rows, []int{a, b}, []int{b, a})
			for c := b + 1; c < n; c++ {
				if r.areApart(a, c) && r.areApart(b, c) {
					rows = append(rows, []int{a, b, c}, []int{c, b, a})
				}
			}
		}
	}
	return rows
}

// areApart is whether two may be Targets of one transition.
func (r reading) areApart(a, b int) bool {
	l := []int{r.counted(a), r.counted(b)}
	first, last := slices.Min(l), slices.Max(l)
	if first == last || r.spans(first, []int{last}) {
		return false
	}
	for s := first - 1; s >= 0; s-- {
		if r.spans(s, l) {
			return r.isA(s, api.Parallel)
		}
	}
	return false
}

// inParts hands on charts with so many of these transitions as there may be.
func (r reading) inParts(all []api.Trans, check func(reading)) {
	for part := range slices.Chunk(all, api.MaxTrans) {
		r.Trans = part
		check(r)
	}
}

// Of ordinary charts and of edges all transitions that may be, with some sets.

func TestAllTransitions(t *testing.T) {
	m := maker{x: 3}
	for _, text := range []string{smallest, rich, nest, flat()} {
		r := read(drawn(text))
		r.inParts(r.mayBe(), func(r reading) {
			one := planted(t, r.Chart)
			for i := range r.Trans {
				checkByReading(t, one, r, full, i)
				checkByReading(t, one, r, m.set(), i)
				checkClashByReading(t, one, r, m.set()&m.set(), i, m.below(len(r.Trans)))
				checkTargets(t, one, r.Chart, m.hist(r.Chart), i)
			}
		})
	}
}

// All charts of up to five states, of each Kind, each with one Initial, with the
// transitions of mayBe, and of charts of each 40 of these: all sets of their states
// (of five states a quarter of them), with bits of others, all pairs of
// transitions with some set, and all sets that histories may have.

func TestAllSmallCharts(t *testing.T) {
	charts, trans, m := 0, 0, maker{x: 5}
	for size := 2; size <= 5; size++ {
		growAll([]api.State{{Kind: api.Compound, Parent: -1}}, size, func(c api.Chart) {
			if _, err := tree.New(c); err != nil {
				return
			}
			charts++
			r := read(c)
			r.inParts(r.mayBe(), func(r reading) {
				trans += len(r.Trans)
				checkSmall(t, &m, r)
			})
		})
	}
	if charts < 300 || trans < 9000 {
		t.Errorf("%d charts, %d transitions", charts, trans)
	}
}

func checkSmall(t *testing.T, m *maker, r reading) {
	t.Helper()
	n := len(r.States)
	one := planted(t, r.Chart)
	for i := range r.Trans {
		for of := range uint32(1) << n {
			if n < 5 || m.below(4) == 0 {
				checkByReading(t, one, r, of|m.set()<<n, i)
			}
		}
		for k := range i + 1 {
			of := m.set()
			checkClashByReading(t, one, r, of, i, k)
			if n < 5 {
				checkClashByReading(t, one, r, of, k, i)
				checkClashByReading(t, one, r, of>>16, i, k)
			}
		}
	}
	eachHist(r.Chart, make([]uint32, n), 0, func(hist []uint32) {
		for i := range r.Trans {
			checkTargets(t, one, r.Chart, hist, i)
		}
	})
}

// growAll hands on all charts of so many states that begin with these, each of
// the others in the one ahead of it, or in one that that is in.
func growAll(states []api.State, size int, check func(api.Chart)) {
	if len(states) == size {
		c := api.Chart{States: slices.Clone(states)}
		begin(c)
		check(c)
		return
	}
	for parent := len(states) - 1; parent >= 0; parent = states[parent].Parent {
		for kind := api.Atomic; kind <= api.Deep; kind++ {
			growAll(append(slices.Clip(states), api.State{Kind: kind, Parent: parent}), size, check)
		}
	}
}

// kept is the set of all that a history's set may have.
func kept(c api.Chart, h int) uint32 {
	r, outer := read(c), c.States[h].Parent
	var of uint32
	for s := outer + 1; s < r.end[outer]; s++ {
		one := c.States[s]
		switch {
		case isHistory(one.Kind):
		case c.States[h].Kind == api.Shallow && one.Parent == outer,
			c.States[h].Kind == api.Deep && (one.Kind == api.Atomic || one.Kind == api.Final):
			of |= set(s)
		}
	}
	return of
}

// eachHist gives the states from s on each set that they may have.
func eachHist(c api.Chart, hist []uint32, s int, check func([]uint32)) {
	if s == len(hist) {
		check(hist)
		return
	}
	hist[s] = 0
	eachHist(c, hist, s+1, check)
	if !isHistory(c.States[s].Kind) {
		return
	}
	of := kept(c, s)
	for some := of; some != 0; some = (some - 1) & of {
		hist[s] = some
		eachHist(c, hist, s+1, check)
	}
}

// Greater charts, by a fixed rule, with transitions and sets by that rule, too.

func TestGreaterCharts(t *testing.T) {
	targets, inner := map[int]int{}, 0
	for seed := range uint32(1500) {
		m := maker{x: seed*2654435761 + 1}
		r := m.reading(2 + int(seed%23))
		checkMade(t, &m, r)
		for i, one := range r.Trans {
			targets[len(one.Targets)]++
			if r.reach(i) == one.Source {
				inner++
			}
		}
	}
	for n, least := range []int{1000, 10_000, 1000, 100} {
		if targets[n] < least {
			t.Errorf("just %d transitions with %d targets", targets[n], n)
		}
	}
	if inner < 1000 {
		t.Errorf("just %d transitions have their Source as their reach", inner)
	}
}

func checkMade(t *testing.T, m *maker, r reading) {
	t.Helper()
	one, n := planted(t, r.Chart), len(r.Trans)
	for i := -1; i <= n; i++ {
		checkByReading(t, one, r, m.set(), i)
		checkClashByReading(t, one, r, m.set(), i, m.below(n+2)-1)
		checkClashByReading(t, one, r, m.set()&m.set()&m.set(), m.below(n+2)-1, i)
	}
	for i := range n {
		checkTargets(t, one, r.Chart, m.hist(r.Chart), i)
	}
}

// maker makes charts, transitions and sets by a fixed rule.
type maker struct{ x uint32 }

func (m *maker) below(n int) int {
	m.x = m.x*1664525 + 1013904223
	return int(m.x>>16) % n
}

func (m *maker) set() uint32 { return uint32(m.below(1<<16))<<16 | uint32(m.below(1<<16)) }

// hist is a list, now and then too short, with sets such as they may have.
func (m *maker) hist(c api.Chart) []uint32 {
	hist := make([]uint32, len(c.States))
	for s := range hist {
		switch {
		case !isHistory(c.States[s].Kind):
			hist[s] = m.set()
		case m.below(4) > 0:
			hist[s] = m.set() & kept(c, s)
		}
	}
	if m.below(4) == 0 {
		return hist[:m.below(len(hist))]
	}
	return hist
}

// reading is a chart of so many states, with transitions.
func (m *maker) reading(size int) reading {
	r := read(m.chart(size))
	for range 1 + m.below(api.MaxTrans) {
		r.Trans = append(r.Trans, m.trans(r))
	}
	return r
}

// trans has a Target in its Source as often as elsewhere, if there is one.
func (m *maker) trans(r reading) api.Trans {
	sources := r.sources()
	source := sources[m.below(len(sources))]
	one := api.Trans{Source: source, Internal: m.below(2) == 0}
	for range m.below(6) {
		s := 1 + m.below(len(r.States)-1)
		if inner := r.end[source] - source - 1; inner > 0 && m.below(2) == 0 {
			s = source + 1 + m.below(inner)
		}
		apart := !slices.ContainsFunc(one.Targets, func(a int) bool { return !r.areApart(a, s) })
		if apart && len(one.Targets) < 3 {
			one.Targets = append(one.Targets, s)
		}
	}
	return one
}

// chart is one of so many states that may be.
func (m *maker) chart(size int) api.Chart {
	c := api.Chart{States: []api.State{{Kind: api.Compound, Parent: -1}}}
	kids := make([]int, size)
	for s := 1; s < size; s++ {
		parent := s - 1
		for parent > 0 && m.below(2) == 0 {
			parent = c.States[parent].Parent
		}
		kids[parent]++
		c.States = append(c.States, api.State{Kind: api.Compound + m.below(2), Parent: parent})
	}
	// From the last state on, so that a last child that is no history is left.
	spare := slices.Clone(kids)
	for s := size - 1; s > 0; s-- {
		if kids[s] == 0 {
			c.States[s].Kind = m.childless(c, s, spare)
		}
	}
	begin(c)
	return c
}

// childless is a Kind of a state that has no children; spare tells how many
// children of each state may still be no histories. State 1 is no Final, so that
// there is a Source.
func (m *maker) childless(c api.Chart, s int, spare []int) int {
	parent := c.States[s].Parent
	kinds := []int{api.Atomic}
	if c.States[parent].Kind == api.Compound && s > 1 {
		kinds = append(kinds, api.Final)
	}
	if parent > 0 && spare[parent] > 1 {
		kinds = append(kinds, api.Shallow, api.Deep)
	}
	kind := kinds[m.below(len(kinds))]
	if isHistory(kind) {
		spare[parent]--
	}
	return kind
}

// P1, P9.1, P9.3: whatever charts, sets and numbers there are.

func FuzzLeave(f *testing.F) {
	f.Add(uint32(1), full, 0, -1)
	f.Add(uint32(77), uint32(5), -1<<63, 1<<63-1)
	f.Fuzz(func(t *testing.T, seed, of uint32, i, k int) {
		m := maker{x: seed}
		r := m.reading(2 + m.below(23))
		checkMade(t, &m, r)
		one := planted(t, r.Chart)
		checkByReading(t, one, r, of, i)
		checkClashByReading(t, one, r, of, i, k)
		checkClashByReading(t, one, r, of, int(uint32(i))%len(r.Trans), int(uint32(k))%len(r.Trans))
	})
}
