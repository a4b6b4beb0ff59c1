package chart_test

import (
	"math/bits"
	"slices"
	"testing"

	"spinet/api"
	"spinet/chart"
)

// A second reading of the chapter: of each state the set of what is in it, made
// from the last state to the first; and rows of what is asked, with their
// errors, of which the first that doesn't hold is told.

// text is an expression, its type (0: none), and how many variables it needs.
type text struct {
	s          string
	kind, vars int
}

// texts are all that the charts made here have.
func texts() []text {
	return []text{
		{"1", api.Int, 0}, {"a", api.Int, 1}, {"b+1", api.Int, 2}, {"h%3", api.Int, 8}, {"i", api.Int, 9}, {"1/0", api.Int, 0},
		{"true", api.Truth, 0}, {"a<1", api.Truth, 1}, {"b==c", api.Truth, 3}, {"h!=1 or false", api.Truth, 8}, {"i<=1", api.Truth, 9},
		{"", 0, 0}, {" ", 0, 0}, {"a+", 0, 0}, {"1+true", 0, 0}, {"not 1", 0, 0}, {"?", 0, 0},
	}
}

func typed(s string, kind, vars int) bool {
	for _, one := range texts() {
		if one.s == s {
			return one.kind == kind && one.vars <= vars
		}
	}
	panic("no such text: " + s)
}

// asked is what is to hold, and the error if it doesn't.
type asked struct {
	holds func() bool
	err   api.Code
}

func first(l []asked) api.Code {
	for _, one := range l {
		if !one.holds() {
			return one.err
		}
	}
	return 0
}

// reading is a chart, with the set of what is in each state, and the set of
// its histories.
type reading struct {
	api.Chart
	in   []uint32
	hist uint32
}

func read(c api.Chart) reading {
	r := reading{Chart: c, in: make([]uint32, len(c.States))}
	for s := len(c.States) - 1; s >= 0; s-- {
		for k := s + 1; k < len(c.States); k++ {
			if c.States[k].Parent == s {
				r.in[s] |= 1<<k | r.in[k]
			}
		}
		if c.States[s].Kind == api.Shallow || c.States[s].Kind == api.Deep {
			r.hist |= 1 << s
		}
	}
	return r
}

// has tells whether s is a state, and in the set.
func (r reading) has(set uint32, s int) bool { return s >= 0 && s < len(r.States) && set>>s&1 == 1 }

// isKid tells whether k is a state whose Parent is s.
func (r reading) isKid(k, s int) bool { return r.has(^uint32(0), k) && r.States[k].Parent == s }

func (r reading) state(s int) api.Code {
	one := r.States[s]
	isHistory := r.has(r.hist, s)
	var outer api.State
	if s > 0 && r.has(^uint32(0), one.Parent) {
		outer = r.States[one.Parent]
	}
	return first([]asked{
		{func() bool { return one.Kind >= 1 && one.Kind <= 6 && (s > 0 || one.Kind == api.Compound) }, api.ErrKind},
		{func() bool {
			if s == 0 {
				return one.Parent == -1
			}
			return one.Parent == s-1 || one.Parent >= 0 && one.Parent < s && r.has(r.in[one.Parent], s-1)
		}, api.ErrArg},
		{func() bool {
			return s == 0 || outer.Kind == api.Compound || outer.Kind == api.Parallel && one.Kind != api.Final
		}, api.ErrKind},
		{func() bool { return !isHistory || one.Parent != 0 }, api.ErrKind},
		{func() bool {
			kids := func(k api.State) bool { return k.Parent == s && k.Kind != api.Shallow && k.Kind != api.Deep }
			return one.Kind != api.Compound && one.Kind != api.Parallel || slices.ContainsFunc(r.States, kids)
		}, api.ErrNone},
		{func() bool {
			if one.Kind != api.Compound && !isHistory {
				return len(one.Initial) == 0
			}
			return len(one.Initial) == 1 && !r.has(r.hist, one.Initial[0])
		}, api.ErrTarget},
		{func() bool {
			switch one.Kind {
			case api.Compound:
				return r.has(r.in[s], one.Initial[0])
			case api.Shallow:
				return r.isKid(one.Initial[0], one.Parent)
			case api.Deep:
				return r.has(r.in[one.Parent], one.Initial[0])
			}
			return true
		}, api.ErrTarget},
		{func() bool { return !isHistory || len(one.Entry)+len(one.Exit) == 0 }, api.ErrArg},
		{func() bool { return r.acts(one.Entry) && r.acts(one.Exit) }, api.ErrArg},
	})
}

func (r reading) trans(t api.Trans) api.Code {
	n := len(r.States)
	return first([]asked{
		{func() bool { return t.Source > 0 && t.Source < n }, api.ErrKind},
		{func() bool { return slices.Contains([]int{1, 2, 3}, r.States[t.Source].Kind) }, api.ErrKind},
		{func() bool {
			e := t.Event
			return e == 1001 || e == 1002 || e >= 0 && (e <= 1000 || e >= 2000 && e < 2000+n)
		}, api.ErrArg},
		{func() bool {
			return len(t.Targets) <= 3 && !slices.ContainsFunc(t.Targets, func(s int) bool { return s <= 0 || s >= n })
		}, api.ErrTarget},
		{func() bool {
			for i, a := range t.Targets {
				for k, b := range t.Targets {
					if i != k && !r.together(a, b) {
						return false
					}
				}
			}
			return true
		}, api.ErrTarget},
		{func() bool { return t.Guard == "" || typed(t.Guard, api.Truth, r.Vars) }, api.ErrType},
		{func() bool { return r.acts(t.Acts) }, api.ErrArg},
	})
}

// together tells whether two Targets may stand in one transition: where states
// may be, of those that both are in the innermost one has the greatest number.
func (r reading) together(a, b int) bool {
	if r.has(r.hist, a) {
		a = r.States[a].Parent
	}
	if r.has(r.hist, b) {
		b = r.States[b].Parent
	}
	innermost := 0
	for s := range r.States {
		if r.has(r.in[s], a) && r.has(r.in[s], b) {
			innermost = s
		}
	}
	return a != b && !r.has(r.in[a], b) && !r.has(r.in[b], a) && r.States[innermost].Kind == api.Parallel
}

func (r reading) acts(l []api.Act) bool {
	for _, a := range l {
		event := a.N >= 1 && a.N <= 1000
		number := typed(a.Expr, api.Int, r.Vars)
		may := map[int]bool{
			api.Assign: a.N >= 0 && a.N < r.Vars && a.M == 0 && number,
			api.Raise:  event && a.M == 0 && a.Expr == "",
			api.Send:   event && a.M >= 0 && a.M <= 1000 && number,
			api.Cancel: event && a.M == 0 && a.Expr == "",
			api.Log:    a.N == 0 && a.M == 0 && number,
		}
		if !may[a.Kind] {
			return false
		}
	}
	return len(l) <= 5
}

// fault is what Check is to tell of a chart that isn't too large.
func fault(c api.Chart) api.Spot {
	r := read(c)
	for s := range c.States {
		if code := r.state(s); code != 0 {
			return api.Spot{At: s, Err: code}
		}
	}
	for i, t := range c.Trans {
		if code := r.trans(t); code != 0 {
			return api.Spot{At: len(c.States) + i, Err: code}
		}
	}
	return api.Spot{}
}

// checkByReading holds Check, and Kids, against the second reading, and P5.4.
// It tells what the reading found.
func checkByReading(t *testing.T, c api.Chart) api.Spot {
	t.Helper()
	want := fault(c)
	switch err := chart.Check(c).(type) {
	case nil:
		if want != (api.Spot{}) {
			t.Errorf("Check(%v): none, want %v", c, want)
		}
		checkPlaces(t, c)
	case *api.Spot:
		if *err != want {
			t.Errorf("Check(%v): %v, want %v", c, err, want)
		}
	default:
		t.Errorf("Check(%v): %v, want %v", c, err, want)
	}
	return want
}

// checkPlaces is P5.4, of a chart that may be: all states but the first one are
// in it, and what is in a state stands right behind it, without others between.
func checkPlaces(t *testing.T, c api.Chart) {
	t.Helper()
	for s := range c.States {
		var in []int
		for k := range c.States {
			for p := c.States[k].Parent; p != -1; p = c.States[p].Parent {
				if p == s {
					in = append(in, k)
				}
			}
		}
		if s == 0 && len(in) != len(c.States)-1 {
			t.Errorf("%v: in the first state are %v", c, in)
		}
		for i, k := range in {
			if k != s+1+i {
				t.Errorf("%v: in %d are %v", c, s, in)
			}
		}
	}
}

// checkAllKids holds Kids of all numbers around those of states against the
// chart.
func checkAllKids(t *testing.T, c api.Chart) {
	t.Helper()
	for s := -3; s < len(c.States)+3; s++ {
		var want []int
		for k, one := range c.States {
			if one.Parent == s && one.Kind != api.Shallow && one.Kind != api.Deep {
				want = append(want, k)
			}
		}
		checkKids(t, c, s, want...)
	}
}

// P5.1, P5.4: all charts of one and two states, of each Kind, with Parents and
// Initial of few numbers; and of three and four, where the first one may be but
// for its kids and its Initial.

func TestAllSmallCharts(t *testing.T) {
	growAll(t, nil, 1)
	growAll(t, nil, 2)
	for size := 3; size <= 4; size++ {
		for initial := range size {
			growAll(t, []api.State{{Kind: api.Compound, Parent: -1, Initial: []int{initial}}}, size)
		}
	}
}

// growAll checks all charts of so many states that begin with these.
func growAll(t *testing.T, states []api.State, size int) {
	if len(states) == size {
		checkByReading(t, api.Chart{States: states})
		return
	}
	least, outside := 0, 1
	if size > 3 {
		least, outside = 1, 0 // fewer, so that it ends in time
	}
	for kind := api.Atomic; kind <= api.Deep; kind++ {
		for parent := -outside; parent < size-1+outside; parent++ {
			growAll(t, append(slices.Clip(states), api.State{Kind: kind, Parent: parent}), size)
			for initial := least; initial < size; initial++ {
				growAll(t, append(slices.Clip(states), api.State{Kind: kind, Parent: parent, Initial: []int{initial}}), size)
			}
		}
	}
}

// P5.1, P5.2, P5.4: greater charts, by a fixed rule: such as may be, and with
// some numbers in them changed. Of each fault there are some.

func TestGreaterCharts(t *testing.T) {
	sound := 0
	faults := map[string]int{}
	for seed := range uint32(8000) {
		m := maker{x: seed*2654435761 + 1}
		c := m.chart(2 + m.below(23))
		for range int(seed % 3) {
			m.change(&c)
		}
		spot := checkByReading(t, c)
		switch {
		case spot == api.Spot{}:
			sound++
		case spot.At < len(c.States):
			faults["state: "+spot.Err.Error()]++
		default:
			faults["transition: "+spot.Err.Error()]++
		}
		if seed%10 == 0 {
			checkAllKids(t, c)
		}
	}
	if sound < 3000 || len(faults) != 8 {
		t.Errorf("%d charts that may be, faults %v", sound, faults)
	}
	for what, n := range faults {
		if n < 20 {
			t.Errorf("%s: just %d", what, n)
		}
	}
}

// P5.1: all pairs, and some threes, of Targets, in charts that may be.

func TestAllPairsOfTargets(t *testing.T) {
	for seed := range uint32(30) {
		m := maker{x: seed*2654435761 + 7}
		c := m.chart(12 + m.below(13))
		c.Trans = nil
		n := len(c.States)
		for a := range n {
			for b := range n {
				for _, l := range [][]int{{a, b}, {a, b, m.below(n)}} {
					checkByReading(t, with(c, api.Trans{Source: 1, Targets: l}))
				}
			}
		}
	}
}

// maker makes charts by a fixed rule.
type maker struct{ x uint32 }

func (m *maker) below(n int) int {
	m.x = m.x*1664525 + 1013904223
	return int(m.x>>16) % n
}

// of is one of these.
func of[T any](m *maker, l ...T) T { return l[m.below(len(l))] }

// chart is one of so many states that may be: first where states are, then
// their Kinds, then what hangs on both.
func (m *maker) chart(size int) api.Chart {
	c := api.Chart{Vars: m.below(9), States: []api.State{{Kind: api.Compound, Parent: -1}}}
	for s := 1; s < size; s++ {
		parent := s - 1
		for parent > 0 && m.below(2) == 0 {
			parent = c.States[parent].Parent
		}
		c.States = append(c.States, api.State{Parent: parent})
	}
	m.kinds(c)
	r := read(c)
	for s := range c.States {
		one := &c.States[s]
		switch one.Kind {
		case api.Compound:
			one.Initial = m.among(r.in[s] &^ r.hist)
		case api.Deep:
			one.Initial = m.among(r.in[one.Parent] &^ r.hist)
		case api.Shallow:
			one.Initial = []int{of(m, chart.Kids(c, one.Parent)...)}
		}
		if !r.has(r.hist, s) && m.below(2) == 0 {
			one.Entry, one.Exit = m.acts(c.Vars), m.acts(c.Vars)
		}
	}
	for range m.below(6) {
		if one := m.trans(r); one.Source > 0 {
			c.Trans = append(c.Trans, one)
		}
	}
	return c
}

// kinds gives each state a Kind that it may have there.
func (m *maker) kinds(c api.Chart) {
	for s := range c.States {
		if s > 0 {
			c.States[s].Kind = of(m, api.Compound, api.Parallel)
		}
	}
	for s := len(c.States) - 1; s > 0; s-- {
		if len(chart.Kids(c, s)) > 0 {
			continue
		}
		one := &c.States[s]
		may := []int{api.Atomic}
		if c.States[one.Parent].Kind == api.Compound {
			may = append(may, api.Final)
		}
		if one.Parent > 0 && len(chart.Kids(c, one.Parent)) > 1 {
			may = append(may, api.Shallow, api.Deep)
		}
		one.Kind = of(m, may...)
	}
}

// among is one of the set.
func (m *maker) among(set uint32) []int {
	for range m.below(bits.OnesCount32(set)) {
		set &= set - 1
	}
	return []int{bits.TrailingZeros32(set)}
}

// text is one of that type, with so many variables.
func (m *maker) text(kind, vars int) string {
	for {
		if one := of(m, texts()...); typed(one.s, kind, vars) {
			return one.s
		}
	}
}

// acts are some that may be.
func (m *maker) acts(vars int) []api.Act {
	var l []api.Act
	for range m.below(6) {
		number := m.text(api.Int, vars)
		l = append(l, of(m,
			api.Act{Kind: api.Raise, N: 1 + m.below(1000)},
			api.Act{Kind: api.Send, N: 1 + m.below(1000), M: m.below(1001), Expr: number},
			api.Act{Kind: api.Cancel, N: 1 + m.below(1000)},
			api.Act{Kind: api.Log, Expr: number}))
		if vars > 0 && m.below(3) == 0 {
			l[len(l)-1] = api.Act{Kind: api.Assign, N: m.below(vars), Expr: number}
		}
	}
	return l
}

// trans is a transition that may be, or one of Source 0, if none was found.
func (m *maker) trans(r reading) api.Trans {
	n := len(r.States)
	one := api.Trans{Source: 1 + m.below(n-1), Event: of(m, 0, 1, 1000, 1001, 1002, 2000+m.below(n)), Internal: m.below(2) == 0, Acts: m.acts(r.Vars)}
	if r.States[one.Source].Kind > api.Parallel {
		return api.Trans{}
	}
	if m.below(2) == 0 {
		one.Guard = m.text(api.Truth, r.Vars)
	}
	for range m.below(8) {
		s := 1 + m.below(n-1)
		fits := func(other int) bool { return r.together(s, other) }
		if len(one.Targets) < 3 && !slices.ContainsFunc(one.Targets, func(o int) bool { return !fits(o) }) {
			one.Targets = append(one.Targets, s)
		}
	}
	return one
}

// change changes something in a chart, to what may, or may not be.
func (m *maker) change(c *api.Chart) {
	if len(c.Trans) > 0 && m.below(2) == 0 {
		m.changeTrans(c, &c.Trans[m.below(len(c.Trans))])
		return
	}
	n := len(c.States)
	one := &c.States[m.below(n)]
	switch m.below(6) {
	case 0:
		one.Kind = m.below(9) - 1
	case 1:
		one.Parent = m.below(n+3) - 2
	case 2:
		one.Initial = of(m, nil, []int{m.below(n+2) - 1}, []int{m.below(n)}, []int{m.below(n), m.below(n)})
	case 3:
		one.Entry = m.changed(one.Entry, c.Vars)
	case 4:
		one.Exit = m.changed(one.Exit, c.Vars)
	case 5:
		c.Vars = m.below(9)
	}
}

func (m *maker) changeTrans(c *api.Chart, one *api.Trans) {
	n := len(c.States)
	switch m.below(5) {
	case 0:
		one.Source = m.below(n+3) - 1
	case 1:
		one.Event = of(m, -1, 0, 1000, 1001, 1002, 1003, 1999, 2000, 1999+n, 2000+n)
	case 2:
		one.Targets = append(slices.Clone(one.Targets), m.below(n+2)-1)
	case 3:
		one.Guard = of(m, texts()...).s
	case 4:
		one.Acts = m.changed(one.Acts, c.Vars)
	}
}

// changed is actions of which one is another one, or with more.
func (m *maker) changed(l []api.Act, vars int) []api.Act {
	l = slices.Clone(l)
	if len(l) == 0 || m.below(4) == 0 {
		return append(l, m.acts(vars)...)
	}
	one := &l[m.below(len(l))]
	switch m.below(4) {
	case 0:
		one.Kind = m.below(7)
	case 1:
		one.N = of(m, -1, 0, 1, vars-1, vars, 1000, 1001)
	case 2:
		one.M = of(m, -1, 0, 1, 1000, 1001)
	case 3:
		one.Expr = of(m, texts()...).s
	}
	return l
}

// P1, P5.1, P5.2: whatever chart bytes tell.

func FuzzCheck(f *testing.F) {
	f.Add([]byte{0, 2, 0, 2, 1, 1, 0, 1, 0})
	f.Add([]byte{3, 4, 1, 2, 2, 1, 0, 1, 0, 3, 1, 1, 0, 1, 1, 1, 0, 0})
	f.Add([]byte{8, 24, 40, 255, 254, 253, 252, 0, 1, 2, 3})
	f.Fuzz(func(t *testing.T, b []byte) {
		c := fromBytes(b)
		checkAllKids(t, c)
		if len(c.States) == 0 || len(c.States) > 24 || len(c.Trans) > 40 || c.Vars < 0 || c.Vars > 8 {
			checkLarge(t, c)
			return
		}
		checkByReading(t, c)
	})
}

// fromBytes makes a chart: each number from one byte, those behind the end 0.
func fromBytes(b []byte) api.Chart {
	next := func(least, most int) int {
		if len(b) == 0 {
			return max(least, 0)
		}
		n := int(b[0])
		b = b[1:]
		return least + n%(most-least+1)
	}
	acts := func() (l []api.Act) {
		for range next(0, 6) {
			l = append(l, api.Act{Kind: next(0, 6), N: of(&maker{x: uint32(next(0, 255)) << 16}, -1, 0, 1, 7, 8, 1000, 1001), M: next(-1, 2), Expr: texts()[next(0, len(texts())-1)].s})
		}
		return l
	}
	row := func(n int) (l []int) {
		for range next(0, 4) {
			l = append(l, next(-1, n))
		}
		return l
	}
	c := api.Chart{Vars: next(-1, 9)}
	n, trans := next(0, 26), next(0, 42)
	for range n {
		c.States = append(c.States, api.State{Kind: next(0, 7), Parent: next(-1, n), Initial: row(n), Entry: acts(), Exit: acts()})
	}
	for range trans {
		c.Trans = append(c.Trans, api.Trans{Source: next(-1, n), Event: next(0, 50) * 50, Targets: row(n), Guard: texts()[next(0, len(texts())-1)].s, Acts: acts()})
	}
	return c
}
