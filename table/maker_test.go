package table_test

import (
	"slices"

	"spinet/api"
)

// maker makes charts and variables by a fixed rule.
type maker struct{ x uint32 }

func (m *maker) below(n int) int {
	m.x = m.x*1664525 + 1013904223
	return int(m.x>>16) % n
}

// env has three variables, or more, or too few.
func (m *maker) env() []int64 {
	env := make([]int64, []int{3, 3, 3, 3, 4, 9, 2, 1, 0}[m.below(9)])
	for k := range env {
		env[k] = int64(m.below(5) - 1)
	}
	return env
}

// reading is a chart of so many states, with transitions.
func (m *maker) reading(size int) reading {
	r := read(m.chart(size))
	for range m.below(api.MaxTrans + 1) {
		source := 1 + m.below(size-1)
		if !r.isA(source, api.Atomic, api.Compound, api.Parallel) {
			continue
		}
		of := guards()
		r.Trans = append(r.Trans, api.Trans{
			Source: source, Event: m.below(9), Guard: of[m.below(len(of))].text,
			Targets: upTo(1, m.below(2)), Internal: m.below(2) == 0,
		})
	}
	return r
}

// chart is one of so many states that may be, with any Initial that may be.
func (m *maker) chart(size int) api.Chart {
	c := api.Chart{Vars: 3, States: []api.State{{Kind: api.Compound, Parent: -1}}}
	kids := make([]int, size)
	for s := 1; s < size; s++ {
		parent := s - 1
		for parent > 0 && m.below(2) == 0 {
			parent = c.States[parent].Parent
		}
		kids[parent]++
		c.States = append(c.States, api.State{Kind: api.Compound + m.below(2), Parent: parent})
	}
	// From the last state on, so that a last child that is no history is left.
	spare := slices.Clone(kids)
	for s := size - 1; s > 0; s-- {
		if kids[s] == 0 {
			c.States[s].Kind = m.childless(c, s, spare)
		}
	}
	for s := range c.States {
		if of := initials(c, s); len(of) > 0 {
			c.States[s].Initial = []int{of[m.below(len(of))]}
		}
	}
	return c
}

// initials are all states that a state's Initial may be.
func initials(c api.Chart, s int) []int {
	r := read(c)
	switch c.States[s].Kind {
	case api.Compound:
		return r.below(s)
	case api.Shallow:
		return r.kids(c.States[s].Parent)
	case api.Deep:
		return r.below(c.States[s].Parent)
	}
	return nil
}

// childless is a Kind of a state that has no children; spare tells how many
// children of each state may still be no histories.
func (m *maker) childless(c api.Chart, s int, spare []int) int {
	parent := c.States[s].Parent
	kinds := []int{api.Atomic}
	if c.States[parent].Kind == api.Compound {
		kinds = append(kinds, api.Final)
	}
	if parent > 0 && spare[parent] > 1 {
		kinds = append(kinds, api.Shallow, api.Deep)
	}
	kind := kinds[m.below(len(kinds))]
	if isHistory(kind) {
		spare[parent]--
	}
	return kind
}
