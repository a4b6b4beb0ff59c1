package enter_test

import (
	"slices"
	"testing"

	"spinet/api"
	"spinet/enter"
	"spinet/tree"
)

// Two more readings of the chapter. The first one does what its words say, one by
// one, as often as they say it, by Parents alone. The second one goes from the
// first state inwards: it is for Targets that are neither in each other nor the
// same, a history counting as its Parent, and needs no order.

// reading is a chart that may be, with histories' sets.
type reading struct {
	api.Chart
	hist []uint32
}

func (r reading) has(s int) bool { return 0 <= s && s < len(r.States) }

// in is whether a state is in another one.
func (r reading) in(a, b int) bool {
	parent := r.States[a].Parent
	return parent == b || parent >= 0 && r.in(parent, b)
}

// someIn is whether one of them is in that state.
func (r reading) someIn(l []int, s int) bool {
	return slices.ContainsFunc(l, func(a int) bool { return r.in(a, s) })
}

// kids are its children but for histories.
func (r reading) kids(s int) []int {
	var l []int
	for k, one := range r.States {
		if one.Parent == s && one.Kind < api.Shallow {
			l = append(l, k)
		}
	}
	return l
}

// standsFor is for histories.
func (r reading) standsFor(h int) []int {
	if h < len(r.hist) && r.hist[h] != 0 {
		return members(r.hist[h])
	}
	return r.States[h].Initial
}

func (r reading) real(l []int) []int {
	var all, real []int
	for _, s := range l {
		switch {
		case !r.has(s):
		case r.States[s].Kind >= api.Shallow:
			all = append(all, r.standsFor(s)...)
		default:
			all = append(all, s)
		}
	}
	for i, s := range all {
		if !slices.Contains(all[:i], s) {
			real = append(real, s)
		}
	}
	return real
}

// below tells the set behind it, and so do the next three.
func (r reading) below(e []int, s int) []int {
	if !r.has(s) {
		return e
	}
	switch one := r.States[s]; one.Kind {
	case api.Shallow, api.Deep:
		return r.belowAndAbove(e, r.standsFor(s), one.Parent)
	case api.Compound:
		return r.belowAndAbove(append(e, s), one.Initial, s)
	case api.Parallel:
		return r.children(append(e, s), s)
	}
	return append(e, s)
}

func (r reading) belowAndAbove(e, l []int, top int) []int {
	for _, s := range l {
		e = r.below(e, s)
	}
	for _, s := range l {
		e = r.above(e, r.States[s].Parent, top)
	}
	return e
}

// above begins with s.
func (r reading) above(e []int, s, top int) []int {
	if s < 0 || s == top {
		return e
	}
	e = append(e, s)
	if r.States[s].Kind == api.Parallel {
		e = r.children(e, s)
	}
	return r.above(e, r.States[s].Parent, top)
}

func (r reading) children(e []int, s int) []int {
	for _, k := range r.kids(s) {
		if !r.someIn(e, k) {
			e = r.below(e, k)
		}
	}
	return e
}

func (r reading) set(from int, l []int) []int {
	var e []int
	for _, s := range l {
		e = r.below(e, s)
	}
	for _, s := range r.real(l) {
		e = r.above(e, r.States[s].Parent, from)
	}
	return e
}

// areApart is whether that second reading is for these.
func (r reading) areApart(l []int) bool {
	for i, a := range l {
		for _, b := range l[:i] {
			a, b := r.counted(a), r.counted(b)
			if a == b || r.in(a, b) || r.in(b, a) {
				return false
			}
		}
	}
	return true
}

func (r reading) counted(s int) int {
	if r.States[s].Kind >= api.Shallow {
		return r.States[s].Parent
	}
	return s
}

// inwards is all that is entered in from, if all are in it: on the way to each
// that is to be reached, and, where none is, by default.
func (r reading) inwards(from int, l []int) []int {
	real := r.real(l)
	if from < 0 {
		return r.filled(0, real)
	}
	return r.reached(from, real, false)
}

func (r reading) filled(s int, l []int) []int {
	parallel := r.States[s].Kind == api.Parallel
	if !parallel && !r.someIn(l, s) {
		l = r.States[s].Initial
	}
	return append(r.reached(s, l, parallel), s)
}

// reached is what is entered of children: of all, or of those with one of l.
func (r reading) reached(s int, l []int, all bool) []int {
	var e []int
	for _, k := range r.kids(s) {
		if all || slices.Contains(l, k) || r.someIn(l, k) {
			e = append(e, r.filled(k, l)...)
		}
	}
	return e
}

func (r reading) allIn(l []int, s int) bool {
	return !slices.ContainsFunc(l, func(a int) bool { return !r.in(a, s) })
}

// checkByReading holds Real and Set against the readings, and P8.3.
func checkByReading(t *testing.T, one *tree.Tree, r reading, from int, l ...int) {
	t.Helper()
	real, got := enter.Real(one, r.hist, l), enter.Set(one, r.hist, from, l)
	if !slices.Equal(real, r.real(l)) {
		t.Fatalf("Real(%v, %v) = %v, want %v, in %v", r.hist, l, real, r.real(l), r.States)
	}
	if want := set(r.set(from, l)...); got != want {
		t.Fatalf("Set(%v, %d, %v) = %v, want %v, in %v", r.hist, from, l, members(got), members(want), r.States)
	}
	if len(real) == 0 || slices.ContainsFunc(l, func(s int) bool { return !r.has(s) }) {
		return
	}
	if from >= len(r.States) || !r.allIn(l, from) {
		return
	}
	if r.areApart(l) {
		if want := set(r.inwards(from, l)...); got != want {
			t.Fatalf("Set(%v, %d, %v) = %v, inwards %v, in %v", r.hist, from, l, members(got), members(want), r.States)
		}
	}
	if from >= 0 && r.States[from].Kind == api.Compound {
		checkFilled(t, one, got, real, from)
	}
}

// P8.3: where from is a Compound that all are in, each Compound that is entered
// has a child that is, each Parallel all its children but for histories; all
// that they really are is entered, and nothing but what is in from.

func checkFilled(t *testing.T, one *tree.Tree, got uint32, real []int, from int) {
	t.Helper()
	if set(real...)&^got != 0 || got&^one.Below(from) != 0 {
		t.Fatalf("of %v from %d entered is %v, in %v", real, from, members(got), one.Chart().States)
	}
	for _, s := range members(got) {
		kids := one.Kids(s)
		if one.Kind(s) == api.Compound && kids&got == 0 || one.Kind(s) == api.Parallel && kids&^got != 0 {
			t.Fatalf("of %v from %d entered is %v: not what it must be of %d, in %v", real, from, members(got), s, one.Chart().States)
		}
	}
}

func TestWhatIsEnteredIsFilled(t *testing.T) {
	for _, text := range []string{rich, regions, chain(), mixed(), stairs()} {
		c := drawn(text)
		one := planted(t, c)
		hist := sets{3: {5}, 8: {7}, 10: {7}, 11: {7, 9}, 17: {13}, 19: {16}, 20: {18, 15}}.list(24)
		for a := range c.States {
			for b := range c.States {
				l := []int{a, b}
				for _, from := range one.Up(a) {
					if one.In(b, from) && one.Kind(from) == api.Compound {
						checkFilled(t, one, enter.Set(one, nil, from, l), enter.Real(one, nil, l), from)
						checkFilled(t, one, enter.Set(one, hist, from, l), enter.Real(one, hist, l), from)
					}
				}
			}
		}
	}
}

// Of ordinary charts and of edges all rows of up to two, and some longer ones,
// from everywhere.

func TestAllShortRows(t *testing.T) {
	for _, text := range []string{smallest, rich, regions, chain(), mixed(), stairs(), flat(), wide()} {
		c := drawn(text)
		one := planted(t, c)
		n := len(c.States)
		m := maker{x: 1}
		for _, hist := range [][]uint32{nil, m.hist(c)} {
			r := reading{c, hist}
			for from := -1; from < n; from++ {
				checkByReading(t, one, r, from)
				for a := range n {
					checkByReading(t, one, r, from, a)
					for b := range n {
						checkByReading(t, one, r, from, a, b)
					}
				}
				for range 50 {
					checkByReading(t, one, r, from, m.row(n)...)
				}
			}
		}
	}
}

// All charts of up to five states, of each Kind, with each Initial that may be,
// each set that histories may have, and all rows of up to two, from everywhere.

func TestAllSmallCharts(t *testing.T) {
	charts, calls := 0, 0
	for size := 2; size <= 5; size++ {
		growAll([]api.State{{Kind: api.Compound, Parent: -1}}, size, func(c api.Chart) {
			one, err := tree.New(c)
			if err != nil {
				return
			}
			charts++
			eachHist(c, make([]uint32, size), 0, func(hist []uint32) {
				calls += checkSmall(t, one, reading{c, hist})
			})
		})
	}
	if charts < 500 || calls < 100_000 {
		t.Errorf("%d charts, %d calls", charts, calls)
	}
}

// checkSmall tells how many calls it made.
func checkSmall(t *testing.T, one *tree.Tree, r reading) int {
	t.Helper()
	n := len(r.States)
	calls := 0
	for from := -1; from < n; from++ {
		for a := -1; a < n; a++ {
			for b := range n {
				checkByReading(t, one, r, from, a, b)
				calls++
			}
		}
	}
	return calls
}

// growAll hands on all charts of so many states that begin with these, each of
// the others in the one ahead of it, or in one that that is in, with each
// Initial.
func growAll(states []api.State, size int, check func(api.Chart)) {
	if len(states) == size {
		c := api.Chart{States: slices.Clone(states)}
		begin(c)
		eachInitial(c, 0, check)
		return
	}
	for parent := len(states) - 1; parent >= 0; parent = states[parent].Parent {
		for kind := api.Atomic; kind <= api.Deep; kind++ {
			growAll(append(slices.Clip(states), api.State{Kind: kind, Parent: parent}), size, check)
		}
	}
}

// eachInitial gives the states from s on each Initial that they may have.
func eachInitial(c api.Chart, s int, check func(api.Chart)) {
	switch {
	case s == len(c.States):
		check(c)
		return
	case c.States[s].Initial == nil:
		eachInitial(c, s+1, check)
		return
	}
	for _, first := range initials(c, s) {
		c.States = slices.Clone(c.States)
		c.States[s].Initial = []int{first}
		eachInitial(c, s+1, check)
	}
}

// initials are all states that a state's Initial may be.
func initials(c api.Chart, s int) []int {
	kind, outer := c.States[s].Kind, s
	if isHistory(kind) {
		outer = c.States[s].Parent
	}
	r := reading{Chart: c}
	if kind == api.Shallow {
		return r.kids(outer)
	}
	var l []int
	for k := range c.States {
		if r.in(k, outer) && !isHistory(c.States[k].Kind) {
			l = append(l, k)
		}
	}
	return l
}

// kept is the set of all that a history's set may have.
func kept(c api.Chart, h int) uint32 {
	var of uint32
	for _, k := range initials(c, h) {
		kind := c.States[k].Kind
		if c.States[h].Kind == api.Shallow || kind == api.Atomic || kind == api.Final {
			of |= set(k)
		}
	}
	return of
}

// eachHist gives the states from s on each set that they may have.
func eachHist(c api.Chart, hist []uint32, s int, check func([]uint32)) {
	if s == len(hist) {
		check(hist)
		return
	}
	hist[s] = 0
	eachHist(c, hist, s+1, check)
	if !isHistory(c.States[s].Kind) {
		return
	}
	of := kept(c, s)
	for some := of; some != 0; some = (some - 1) & of {
		hist[s] = some
		eachHist(c, hist, s+1, check)
	}
}

// Greater charts, by a fixed rule, with Initials, sets and rows by that rule, too.

func TestGreaterCharts(t *testing.T) {
	kinds := map[int]int{}
	for seed := range uint32(1500) {
		m := maker{x: seed*2654435761 + 1}
		c := m.chart(2 + int(seed%23))
		for _, one := range c.States {
			kinds[one.Kind]++
		}
		checkMade(t, &m, c, 40)
	}
	for kind := api.Atomic; kind <= api.Deep; kind++ {
		if kinds[kind] < 500 {
			t.Errorf("just %d states of Kind %d", kinds[kind], kind)
		}
	}
}

// checkMade makes so many rows, from anywhere and from what they are joined in.
func checkMade(t *testing.T, m *maker, c api.Chart, rows int) {
	t.Helper()
	n := len(c.States)
	one := planted(t, c)
	for range rows {
		r := reading{c, m.hist(c)}
		l := m.row(n)
		checkByReading(t, one, r, m.below(n+3)-1, l...)
		checkByReading(t, one, r, 0, l...)
		checkByReading(t, one, r, one.Join(l), l...)
	}
}

// maker makes charts, rows and sets by a fixed rule.
type maker struct{ x uint32 }

func (m *maker) below(n int) int {
	m.x = m.x*1664525 + 1013904223
	return int(m.x>>16) % n
}

func (m *maker) set() uint32 { return uint32(m.below(1<<16))<<16 | uint32(m.below(1<<16)) }

// row is one of one to four states, now and then with one that isn't there.
func (m *maker) row(n int) []int {
	l := make([]int, 1+m.below(4))
	for i := range l {
		l[i] = 1 + m.below(n-1)
	}
	if m.below(8) == 0 {
		l[m.below(len(l))] = m.below(40) - 8
	}
	return l
}

// hist is a list, now and then too short, with sets such as they may have.
func (m *maker) hist(c api.Chart) []uint32 {
	n := len(c.States)
	hist := make([]uint32, n)
	for s := range hist {
		switch {
		case !isHistory(c.States[s].Kind):
			hist[s] = m.set()
		case m.below(4) > 0:
			hist[s] = m.set() & kept(c, s)
		}
	}
	if m.below(4) == 0 {
		return hist[:m.below(n)]
	}
	return hist
}

// chart is one of so many states that may be.
func (m *maker) chart(size int) api.Chart {
	c := api.Chart{States: []api.State{{Kind: api.Compound, Parent: -1}}}
	kids := make([]int, size)
	for s := 1; s < size; s++ {
		parent := s - 1
		for parent > 0 && m.below(2) == 0 {
			parent = c.States[parent].Parent
		}
		kids[parent]++
		c.States = append(c.States, api.State{Kind: api.Compound + m.below(2), Parent: parent})
	}
	// From the last state on, so that a last child that is no history is left.
	spare := slices.Clone(kids)
	for s := size - 1; s > 0; s-- {
		if kids[s] == 0 {
			c.States[s].Kind = m.childless(c, s, spare)
		}
	}
	for s, one := range c.States {
		if one.Kind == api.Compound || isHistory(one.Kind) {
			of := initials(c, s)
			c.States[s].Initial = []int{of[m.below(len(of))]}
		}
	}
	return c
}

// childless is a Kind of a state that has no children; spare tells how many
// children of each state may still be no histories.
func (m *maker) childless(c api.Chart, s int, spare []int) int {
	parent := c.States[s].Parent
	kinds := []int{api.Atomic}
	if c.States[parent].Kind == api.Compound {
		kinds = append(kinds, api.Final)
	}
	if parent > 0 && spare[parent] > 1 {
		kinds = append(kinds, api.Shallow, api.Deep)
	}
	kind := kinds[m.below(len(kinds))]
	if isHistory(kind) {
		spare[parent]--
	}
	return kind
}

// P1, P8.1, P8.3: whatever charts, rows and numbers there are.

func FuzzEnter(f *testing.F) {
	f.Add(uint32(1), 0, -1, 23, 7)
	f.Add(uint32(77), 1<<62, -1<<63, 1<<63-1, 3)
	f.Fuzz(func(t *testing.T, seed uint32, from, a, b, d int) {
		m := maker{x: seed}
		c := m.chart(2 + m.below(23))
		checkMade(t, &m, c, 5)
		one, n := planted(t, c), len(c.States)
		checkByReading(t, one, reading{c, m.hist(c)}, from, a, b, d)
		checkByReading(t, one, reading{c, m.hist(c)}, from, uint32Of(a)%n, uint32Of(b)%n, uint32Of(d)%n)
		anything := []uint32{m.set(), m.set(), m.set(), m.set(), m.set(), m.set(), m.set(), m.set(), m.set(), m.set(), m.set()}
		enter.Real(one, anything, []int{a, b, d})
		enter.Set(one, anything, from, []int{uint32Of(a) % n, uint32Of(b) % n, uint32Of(d) % n})
	})
}

// uint32Of is not below 0.
func uint32Of(a int) int { return int(uint32(a)) }
