package engine

import (
	"spinet/act"
	"spinet/api"
)

// step does a step with transitions that don't clash.
func (s *session) step(l []choice) {
	missing := max(0, len(s.chart.States)-len(s.run.Hist))
	s.run.Hist = append(s.run.Hist, make([]uint32, missing)...)
	var left, entered uint32
	for _, one := range l {
		left |= one.left
	}
	s.record(left)
	s.leaveAll(left)
	for _, one := range l {
		s.do(one.Acts)
		entered |= s.entered(one)
	}
	s.enterAll(entered)
}

// record gives each history of a state that is left what is active in that one.
func (s *session) record(left uint32) {
	for h := range rising(s.histories()) {
		if outer := s.chart.States[h].Parent; left&bit(outer) != 0 {
			s.run.Hist[h] = s.activeFor(h, outer)
		}
	}
}

// activeFor goes by Parents for a Shallow one: Kids would pass by a history that is
// active, and the document doesn't.
func (s *session) activeFor(h, outer int) uint32 {
	active := s.activeIn(outer)
	if s.isA(h, api.Deep) {
		return active & s.leaves()
	}
	for k := range rising(active) {
		if s.chart.States[k].Parent != outer {
			active &^= bit(k)
		}
	}
	return active
}

func (s *session) leaveAll(set uint32) {
	for k := range falling(set) {
		s.do(s.chart.States[k].Exit)
		s.run.Conf &^= bit(k)
	}
}

// do does actions. What they have for the session stands behind all it has.
func (s *session) do(l []api.Act) {
	env, out, inside := act.Do(l, s.run.Env)
	s.run.Env = env
	s.out = append(s.out, out...)
	s.comesInside(inside...)
}

func (s *session) enterAll(set uint32) {
	for k := range rising(set &^ s.run.Conf) {
		s.enterOne(k)
	}
}

func (s *session) enterOne(k int) {
	s.run.Conf |= bit(k)
	s.do(s.chart.States[k].Entry)
	if s.isA(k, api.Final) {
		s.finish(s.chart.States[k].Parent)
	}
}

// finish tells of a state that a Final in it is active now. Of Parallels just the
// one that this state is a child of is asked: none further out is.
func (s *session) finish(k int) {
	if k == first {
		s.run.Status = api.Ended
		return
	}
	s.comesInside(api.EventDone + k)
	if outer := s.chart.States[k].Parent; s.isA(outer, api.Parallel) && s.isDone(outer) {
		s.comesInside(api.EventDone + outer)
	}
}

// isDone tells whether a state is: one that is neither a Compound nor a Parallel
// never is.
func (s *session) isDone(k int) bool {
	switch s.chart.States[k].Kind {
	case api.Compound:
		return s.Kids(k)&s.kinds[api.Final]&s.run.Conf != 0
	case api.Parallel:
		return s.areDone(s.Kids(k))
	}
	return false
}

func (s *session) areDone(set uint32) bool {
	for k := range rising(set) {
		if !s.isDone(k) {
			return false
		}
	}
	return true
}
