package engine_test

import (
	"slices"

	"spinet/api"
)

// maker makes charts, sessions and events by a fixed rule.
type maker struct{ x uint32 }

func (m *maker) below(n int) int {
	m.x = m.x*1664525 + 1013904223
	return int(m.x>>16) % n
}

func (m *maker) set() uint32 { return uint32(m.below(1<<16))<<16 | uint32(m.below(1<<16)) }

// reading is a chart of so many states, with transitions for few events, and with
// actions here and there.
func (m *maker) reading(size int) reading {
	r := reading{m.chart(size)}
	if sources := r.sources(); len(sources) > 0 {
		for range 1 + m.below([]int{3, 8, api.MaxTrans}[m.below(3)]) {
			r.Trans = append(r.Trans, m.trans(r, sources[m.below(len(sources))]))
		}
	}
	for s := range r.States {
		if one := &r.States[s]; !isHistory(one.Kind) {
			one.Entry, one.Exit = m.acts(), m.acts()
		}
	}
	return r
}

// event is one that transitions are for, one that a session may raise, or be told,
// as often as not.
func (m *maker) event(r reading) int {
	switch m.below(8) {
	case 0:
		return 0
	case 1:
		return api.EventError
	case 2:
		return done(m.below(len(r.States)))
	}
	return 7 + m.below(3)
}

// trans has a Target in its Source as often as elsewhere, if there is one, and a
// Guard now and then; mostly, if it is for event 0: it would hardly ever settle.
func (m *maker) trans(r reading, source int) api.Trans {
	one := api.Trans{Source: source, Event: m.event(r), Internal: m.below(2) == 0, Acts: m.acts()}
	if m.below(4) == 0 || one.Event == 0 && m.below(8) > 0 {
		one.Guard = []string{"a<b", "not a==c", "b==2", "c<0 and a<3"}[m.below(4)]
	}
	if m.below(20) == 0 {
		one.Guard = []string{"1/a<2", "b%c<1"}[m.below(2)]
	}
	if ends := r.ends(); len(ends) > 0 && m.below(6) == 0 {
		one.Targets = []int{ends[m.below(len(ends))]}
		return one
	}
	inner := r.allIn(source)
	for range m.below(5) {
		s := 1 + m.below(len(r.States)-1)
		if len(inner) > 0 && m.below(2) == 0 {
			s = inner[m.below(len(inner))]
		}
		apart := !slices.ContainsFunc(one.Targets, func(a int) bool { return !r.areApart(a, s) })
		if apart && len(one.Targets) < 3 {
			one.Targets = append(one.Targets, s)
		}
	}
	return one
}

// acts are none as often as not, or up to three, now and then with one that may be
// a mishap, and now and then five that raise.
func (m *maker) acts() []api.Act {
	var l []api.Act
	if m.below(60) == 0 {
		return raises(7, 8, 9, 9, 8)
	}
	if m.below(2) == 0 {
		for range m.below(4) {
			l = append(l, m.act())
		}
	}
	return l
}

func (m *maker) act() api.Act {
	e := []string{"a+1", "b*a", "c-b", "a+b*c+7", "5", "1/a", "a%b", "b+1", "0"}[m.below(9)]
	switch m.below(9) {
	case 0, 1, 2, 3:
		return assign(m.below(3), e)
	case 4:
		return raise(7 + m.below(4))
	case 5:
		return api.Act{Kind: api.Cancel, N: 1 + m.below(api.MaxEvent)}
	case 6:
		return api.Act{Kind: api.Send, N: 1 + m.below(api.MaxEvent), M: m.below(api.MaxDelay + 1), Expr: e}
	}
	return log(e)
}

// run is a session that stands in no way that one comes to: with any states
// active, and lists of any length.
func (m *maker) run(r reading) api.Run {
	run := api.Run{Conf: m.set(), Status: []int{api.Going, api.Going, api.Going, api.Ended, api.Failed, 0, -3}[m.below(7)]}
	run.Hist = m.histories(r)[:m.below(len(r.States)+1)]
	for range m.below(4) {
		run.Hist = append(run.Hist, m.set())
	}
	for range m.below(5) {
		run.Env = append(run.Env, int64(m.below(7)-3))
	}
	for range m.below([]int{1, 4, 25, 56}[m.below(4)]) {
		run.Inner = append(run.Inner, m.event(r))
	}
	return run
}

// whole is one with a whole set of active states, and with sets of histories of
// which layer 8 says something.
func (m *maker) whole(r reading) api.Run {
	run := m.run(r)
	run.Conf, run.Hist, run.Status = m.wholeOf(r, 0), m.histories(r), api.Going
	return run
}

func (m *maker) wholeOf(r reading, s int) uint32 {
	conf, kids := set(s), r.kids(s)
	if r.isA(s, api.Compound) {
		kids = kids[m.below(len(kids)):][:1]
	}
	for _, k := range kids {
		conf |= m.wholeOf(r, k)
	}
	return conf
}

// histories are sets, of histories such as layer 8 says something of; a third of
// these is empty.
func (m *maker) histories(r reading) []uint32 {
	var hist []uint32
	for s, one := range r.States {
		of := m.set()
		if isHistory(one.Kind) {
			of &= r.mayKeep(s) * uint32(min(1, m.below(3)))
		}
		hist = append(hist, of)
	}
	return hist
}

// chart is one of so many states that may be, with any Initial that may be.
func (m *maker) chart(size int) api.Chart {
	c := api.Chart{Vars: 3, States: []api.State{{Kind: api.Compound, Parent: -1}}}
	kids := make([]int, size)
	for s := 1; s < size; s++ {
		parent := s - 1
		for parent > 0 && m.below(2) == 0 {
			parent = c.States[parent].Parent
		}
		kids[parent]++
		c.States = append(c.States, api.State{Kind: api.Compound + m.below(2), Parent: parent})
	}
	// From the last state on, so that a last child that is no history is left.
	spare := slices.Clone(kids)
	for s := size - 1; s > 0; s-- {
		if kids[s] == 0 {
			c.States[s].Kind = m.childless(c, s, spare)
		}
	}
	for s := range c.States {
		if of := (reading{c}).initials(s); len(of) > 0 {
			c.States[s].Initial = []int{of[m.below(len(of))]}
		}
	}
	return c
}

// childless is a Kind of a state that has no children; spare tells how many
// children of each state may still be no histories. State 1 is no Final, so that
// there is a Source.
func (m *maker) childless(c api.Chart, s int, spare []int) int {
	parent := c.States[s].Parent
	kinds := []int{api.Atomic, api.Atomic}
	if c.States[parent].Kind == api.Compound && s > 1 {
		kinds = append(kinds, api.Final)
	}
	if parent > 0 && spare[parent] > 1 {
		kinds = append(kinds, api.Shallow, api.Deep)
	}
	kind := kinds[m.below(len(kinds))]
	if isHistory(kind) {
		spare[parent]--
	}
	return kind
}
