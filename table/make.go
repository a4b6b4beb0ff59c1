package table

import (
	"spinet/api"
	"spinet/parse"
	"spinet/tree"
)

// statesOf goes from the last state on: what is in a state stands behind it, and
// so is ready ahead of it.
func statesOf(where *tree.Tree) []state {
	c := where.Chart()
	m := making{tree: where, chart: c, states: make([]state, len(c.States))}
	for s := len(c.States) - 1; s >= 0; s-- {
		m.states[s] = state{
			up:      setOf(where.Up(s)),
			below:   where.Below(s),
			kids:    where.Kids(s),
			entered: m.entered(s),
			from:    from(c, s),
		}
	}
	return m.states
}

// guardsOf has no tokens for an empty Guard. All others parse: chart.Check asked.
func guardsOf(c api.Chart) [][]api.Tok {
	guards := make([][]api.Tok, len(c.Trans))
	for i, one := range c.Trans {
		guards[i], _ = parse.Parse(one.Guard)
	}
	return guards
}

// making is a chart of which the last states are ready.
type making struct {
	tree   *tree.Tree
	chart  api.Chart
	states []state
}

// entered is a state's Default.
func (m making) entered(s int) uint32 {
	switch m.tree.Kind(s) {
	case api.Shallow, api.Deep:
		return 0
	case api.Compound:
		return bit(s) | m.initial(s)
	case api.Parallel:
		return bit(s) | m.missing(s, 0)
	}
	return bit(s)
}

// initial is a Compound's Initial's Default, with what is between, and with what
// is missing in the Parallels there.
func (m making) initial(s int) uint32 {
	first := m.chart.States[s].Initial[0]
	set := m.states[first].entered
	for _, p := range m.tree.Up(first) {
		if p == s {
			break
		}
		set |= bit(p)
		if m.tree.Kind(p) == api.Parallel {
			set |= m.missing(p, set)
		}
	}
	return set
}

// missing is the Default of each child of a Parallel in which a set has nothing.
func (m making) missing(p int, set uint32) uint32 {
	var all uint32
	for k, one := range m.chart.States {
		if one.Parent == p && set&m.states[k].below == 0 {
			all |= m.states[k].entered
		}
	}
	return all
}

// from are the transitions from a state, in order.
func from(c api.Chart, s int) []int {
	var l []int
	for i, one := range c.Trans {
		if one.Source == s {
			l = append(l, i)
		}
	}
	return l
}

func setOf(l []int) uint32 {
	var set uint32
	for _, s := range l {
		set |= bit(s)
	}
	return set
}

func bit(s int) uint32 { return 1 << s }
