package micro

import (
	"slices"

	"spinet/act"
	"spinet/api"
	"spinet/enter"
	"spinet/leave"
	"spinet/tree"
)

// step is a session on its way through a step, and what went out so far.
type step struct {
	tree  *tree.Tree
	chart api.Chart
	run   api.Run
	out   []api.Out
}

// stepFrom shares no list with the session.
func stepFrom(t *tree.Tree, r api.Run) *step {
	s := &step{tree: t, chart: t.Chart(), run: r}
	missing := max(0, len(s.chart.States)-len(r.Hist))
	s.run.Hist = append(slices.Clone(r.Hist), make([]uint32, missing)...)
	s.run.Env, s.run.Inner = slices.Clone(r.Env), slices.Clone(r.Inner)
	return s
}

func (s *step) thatAreThere(l []int) []int {
	isNowhere := func(i int) bool { return i < 0 || i >= len(s.chart.Trans) }
	return slices.DeleteFunc(slices.Clone(l), isNowhere)
}

// do does actions. What they have for the session stands behind all it has.
func (s *step) do(l []api.Act) {
	env, out, inside := act.Do(l, s.run.Env)
	s.run.Env = env
	s.out = append(s.out, out...)
	s.run.Inner = append(s.run.Inner, inside...)
}

// left is all that one of the transitions leaves. It asks each transition once,
// as l may be far longer than there are transitions.
func (s *step) left(l []int) uint32 {
	var set uint32
	for i := range s.chart.Trans {
		if slices.Contains(l, i) {
			set |= leave.Set(s.tree, s.run.Conf, i)
		}
	}
	return set
}

// leaveAll is part 1. Histories look at what is active ahead of all of it.
func (s *step) leaveAll(set uint32) {
	s.record(set)
	for k := len(s.chart.States) - 1; k >= 0; k-- {
		if set&bit(k) != 0 {
			s.do(s.chart.States[k].Exit)
			s.run.Conf &^= bit(k)
		}
	}
}

// entered is all that one of the transitions enters.
func (s *step) entered(l []int) uint32 {
	var set uint32
	for i, one := range s.chart.Trans {
		if len(one.Targets) > 0 && slices.Contains(l, i) {
			set |= s.below(leave.Reach(s.tree, i), one.Targets)
		}
	}
	return set
}

// below is what is entered for Targets, up to a state.
func (s *step) below(from int, targets []int) uint32 {
	return enter.Set(s.tree, s.run.Hist, from, targets)
}

// enterAll is part 3.
func (s *step) enterAll(set uint32) {
	set &^= s.run.Conf
	for k := range s.chart.States {
		if set&bit(k) != 0 {
			s.enterOne(k)
		}
	}
}

func (s *step) enterOne(k int) {
	one := s.chart.States[k]
	s.run.Conf |= bit(k)
	s.do(one.Entry)
	if one.Kind == api.Final {
		s.finish(one.Parent)
	}
}

func bit(s int) uint32 { return 1 << s }
