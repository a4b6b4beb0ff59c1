package micro

import "spinet/api"

// finish tells of a state that a Final in it is active now. Of Parallels just the
// one that this state is a child of is asked: none further out is.
func (s *step) finish(k int) {
	if k == first {
		s.run.Status = api.Ended
		return
	}
	s.run.Inner = append(s.run.Inner, api.EventDone+k)
	outer := s.chart.States[k].Parent
	if s.tree.Kind(outer) == api.Parallel && s.isDone(outer) {
		s.run.Inner = append(s.run.Inner, api.EventDone+outer)
	}
}

// isDone tells whether a state is: one that is neither a Compound nor a Parallel
// never is.
func (s *step) isDone(k int) bool {
	switch s.tree.Kind(k) {
	case api.Compound:
		return s.hasFinal(s.tree.Kids(k) & s.run.Conf)
	case api.Parallel:
		return s.areDone(s.tree.Kids(k))
	}
	return false
}

func (s *step) hasFinal(set uint32) bool {
	for k, one := range s.chart.States {
		if set&bit(k) != 0 && one.Kind == api.Final {
			return true
		}
	}
	return false
}

func (s *step) areDone(set uint32) bool {
	for k := range s.chart.States {
		if set&bit(k) != 0 && !s.isDone(k) {
			return false
		}
	}
	return true
}
