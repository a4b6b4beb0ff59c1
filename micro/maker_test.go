package micro_test

import (
	"slices"

	"spinet/api"
)

// maker makes charts, sessions and lists by a fixed rule.
type maker struct{ x uint32 }

func (m *maker) below(n int) int {
	m.x = m.x*1664525 + 1013904223
	return int(m.x>>16) % n
}

func (m *maker) set() uint32 { return uint32(m.below(1<<16))<<16 | uint32(m.below(1<<16)) }

// reading is a chart of so many states, with transitions for few events, and with
// actions everywhere.
func (m *maker) reading(size int) reading {
	r := reading{m.chart(size)}
	if sources := r.sources(); len(sources) > 0 {
		for range 1 + m.below(api.MaxTrans) {
			r.Trans = append(r.Trans, m.trans(r, sources[m.below(len(sources))]))
		}
	}
	for s := range r.States {
		if one := &r.States[s]; !isHistory(one.Kind) {
			one.Entry, one.Exit = m.acts(), m.acts()
		}
	}
	return r
}

// events are those of transitions: one that comes from outside, none, and one
// that tells what is done.
var events = []int{7, 0, api.EventDone + 1}

// trans has a Target in its Source as often as elsewhere, if there is one, and
// now and then a Guard.
func (m *maker) trans(r reading, source int) api.Trans {
	one := api.Trans{Source: source, Event: events[m.below(len(events))], Internal: m.below(2) == 0, Acts: m.acts()}
	if m.below(4) == 0 {
		one.Guard = []string{"a<b", "not a==c", "1/a<2"}[m.below(3)]
	}
	inner := r.allIn(source)
	for range m.below(5) {
		s := 1 + m.below(len(r.States)-1)
		if len(inner) > 0 && m.below(2) == 0 {
			s = inner[m.below(len(inner))]
		}
		apart := !slices.ContainsFunc(one.Targets, func(a int) bool { return !r.areApart(a, s) })
		if apart && len(one.Targets) < 3 {
			one.Targets = append(one.Targets, s)
		}
	}
	return one
}

// acts are up to three actions, now and then with one that may be a mishap.
func (m *maker) acts() []api.Act {
	var l []api.Act
	for range m.below(4) {
		l = append(l, m.act())
	}
	return l
}

func (m *maker) act() api.Act {
	e := []string{"a+1", "b*a", "c-b", "a+b*c+7", "5", "1/a", "a%b"}[m.below(7)]
	switch m.below(6) {
	case 0, 1:
		return assign(m.below(3), e)
	case 2:
		return raise(1 + m.below(api.MaxEvent))
	case 3:
		return api.Act{Kind: api.Cancel, N: 1 + m.below(api.MaxEvent)}
	case 4:
		return api.Act{Kind: api.Send, N: 1 + m.below(api.MaxEvent), M: m.below(api.MaxDelay + 1), Expr: e}
	}
	return log(e)
}

// list has numbers of transitions, some twice, and some of none.
func (m *maker) list(r reading) []int {
	var l []int
	for range m.below(7) {
		l = append(l, m.below(len(r.Trans)+2)-1)
	}
	return l
}

// run is a session that stands in no way that one comes to: with any states
// active, lists of any length, and sets of histories such as layer 8 says
// something of.
func (m *maker) run(r reading) api.Run {
	run := api.Run{Conf: m.set(), Status: []int{api.Going, api.Ended, api.Failed, 0, -3}[m.below(5)]}
	for s := range m.below(len(r.States) + 4) {
		of := m.set()
		if s < len(r.States) && isHistory(r.States[s].Kind) {
			of &= r.mayKeep(s)
		}
		run.Hist = append(run.Hist, of)
	}
	for range m.below(5) {
		run.Env = append(run.Env, int64(m.below(7)-3))
	}
	for range m.below(4) {
		run.Inner = append(run.Inner, m.below(3000)-500)
	}
	return run
}

// chart is one of so many states that may be, with any Initial that may be.
func (m *maker) chart(size int) api.Chart {
	c := api.Chart{Vars: 3, States: []api.State{{Kind: api.Compound, Parent: -1}}}
	kids := make([]int, size)
	for s := 1; s < size; s++ {
		parent := s - 1
		for parent > 0 && m.below(2) == 0 {
			parent = c.States[parent].Parent
		}
		kids[parent]++
		c.States = append(c.States, api.State{Kind: api.Compound + m.below(2), Parent: parent})
	}
	// From the last state on, so that a last child that is no history is left.
	spare := slices.Clone(kids)
	for s := size - 1; s > 0; s-- {
		if kids[s] == 0 {
			c.States[s].Kind = m.childless(c, s, spare)
		}
	}
	for s := range c.States {
		if of := (reading{c}).initials(s); len(of) > 0 {
			c.States[s].Initial = []int{of[m.below(len(of))]}
		}
	}
	return c
}

// childless is a Kind of a state that has no children; spare tells how many
// children of each state may still be no histories. State 1 is no Final, so that
// there is a Source.
func (m *maker) childless(c api.Chart, s int, spare []int) int {
	parent := c.States[s].Parent
	kinds := []int{api.Atomic, api.Atomic}
	if c.States[parent].Kind == api.Compound && s > 1 {
		kinds = append(kinds, api.Final)
	}
	if parent > 0 && spare[parent] > 1 {
		kinds = append(kinds, api.Shallow, api.Deep)
	}
	kind := kinds[m.below(len(kinds))]
	if isHistory(kind) {
		spare[parent]--
	}
	return kind
}
