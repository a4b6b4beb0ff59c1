package choose_test

import (
	"slices"

	"spinet/api"
)

// maker makes charts, transitions, sets, variables and lists by a fixed rule.
type maker struct{ x uint32 }

func (m *maker) below(n int) int {
	m.x = m.x*1664525 + 1013904223
	return int(m.x>>16) % n
}

// set has half of the bits, or more of them.
func (m *maker) set() uint32 {
	some := func() uint32 { return uint32(m.below(1<<16))<<16 | uint32(m.below(1<<16)) }
	if m.below(2) == 0 {
		return some()
	}
	return some() | some()
}

// env has three variables, or more, or too few.
func (m *maker) env() []int64 {
	env := make([]int64, []int{3, 3, 3, 3, 4, 9, 2, 1, 0}[m.below(9)])
	for k := range env {
		env[k] = int64(m.below(5) - 1)
	}
	return env
}

// asked are events that are asked for: the last two are no transition's.
var asked = []int{7, 0, api.EventDone, 1000, -7}

// event is a transition's, 7 as often as any other one.
func (m *maker) event() int { return []int{7, 7, 0, api.EventDone}[m.below(4)] }

// list has numbers of transitions, some twice, and some of none.
func (m *maker) list(r reading) []int {
	var l []int
	for range m.below(9) {
		l = append(l, m.below(len(r.Trans)+2)-1)
	}
	return l
}

// reading is a chart of so many states, with transitions.
func (m *maker) reading(size int) reading {
	return m.with(read(m.chart(size)), 1+m.below(api.MaxTrans))
}

// with has so many transitions, if there is a Source for them.
func (m *maker) with(r reading, n int) reading {
	r.Trans = nil
	if len(r.sources()) == 0 {
		return r
	}
	for range n {
		r.Trans = append(r.Trans, m.trans(r))
	}
	return r
}

// trans has a Target in its Source as often as elsewhere, if there is one, and
// every other one has a Guard.
func (m *maker) trans(r reading) api.Trans {
	sources := r.sources()
	source := sources[m.below(len(sources))]
	one := api.Trans{Source: source, Event: m.event(), Internal: m.below(2) == 0}
	if m.below(2) == 0 {
		one.Guard = guards[m.below(len(guards))].text
	}
	for range m.below(5) {
		s := 1 + m.below(len(r.States)-1)
		if inner := r.end[source] - source - 1; inner > 0 && m.below(2) == 0 {
			s = source + 1 + m.below(inner)
		}
		apart := !slices.ContainsFunc(one.Targets, func(a int) bool { return !r.areApart(a, s) })
		if apart && len(one.Targets) < 3 {
			one.Targets = append(one.Targets, s)
		}
	}
	return one
}

func (r reading) sources() []int {
	var l []int
	for s := 1; s < len(r.States); s++ {
		if r.States[s].Kind <= api.Parallel {
			l = append(l, s)
		}
	}
	return l
}

// areApart is whether two may be Targets of one transition.
func (r reading) areApart(a, b int) bool {
	a, b = r.counted(a), r.counted(b)
	if a == b || r.isIn(a, b) || r.isIn(b, a) {
		return false
	}
	outer := r.States[a].Parent
	for !r.isIn(b, outer) {
		outer = r.States[outer].Parent
	}
	return r.States[outer].Kind == api.Parallel
}

func (r reading) counted(s int) int {
	if isHistory(r.States[s].Kind) {
		return r.States[s].Parent
	}
	return s
}

// chart is one of so many states that may be.
func (m *maker) chart(size int) api.Chart {
	c := api.Chart{Vars: 3, States: []api.State{{Kind: api.Compound, Parent: -1}}}
	kids := make([]int, size)
	for s := 1; s < size; s++ {
		parent := s - 1
		for parent > 0 && m.below(2) == 0 {
			parent = c.States[parent].Parent
		}
		kids[parent]++
		c.States = append(c.States, api.State{Kind: api.Compound + m.below(2), Parent: parent})
	}
	// From the last state on, so that a last child that is no history is left.
	spare := slices.Clone(kids)
	for s := size - 1; s > 0; s-- {
		if kids[s] == 0 {
			c.States[s].Kind = m.childless(c, s, spare)
		}
	}
	begin(c)
	return c
}

// childless is a Kind of a state that has no children; spare tells how many
// children of each state may still be no histories. State 1 is no Final, so that
// there is a Source.
func (m *maker) childless(c api.Chart, s int, spare []int) int {
	parent := c.States[s].Parent
	kinds := []int{api.Atomic}
	if c.States[parent].Kind == api.Compound && s > 1 {
		kinds = append(kinds, api.Final)
	}
	if parent > 0 && spare[parent] > 1 {
		kinds = append(kinds, api.Shallow, api.Deep)
	}
	kind := kinds[m.below(len(kinds))]
	if isHistory(kind) {
		spare[parent]--
	}
	return kind
}
