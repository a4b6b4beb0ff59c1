package micro

import "spinet/api"

// record gives each history of a state that is left what is active in that one.
func (s *step) record(left uint32) {
	for h, one := range s.chart.States {
		if isHistory(one.Kind) && left&bit(one.Parent) != 0 {
			s.run.Hist[h] = s.activeFor(one)
		}
	}
}

func (s *step) activeFor(history api.State) uint32 {
	if history.Kind == api.Shallow {
		return s.activeKids(history.Parent)
	}
	return s.activeLeaves(history.Parent)
}

// activeKids goes by Parents: tree.Kids would pass by a history that is active,
// and the document doesn't.
func (s *step) activeKids(p int) uint32 {
	var set uint32
	for k, one := range s.chart.States {
		if one.Parent == p && s.run.Conf&bit(k) != 0 {
			set |= bit(k)
		}
	}
	return set
}

func (s *step) activeLeaves(p int) uint32 {
	var set uint32
	for _, leaf := range s.tree.Leaves(s.run.Conf) {
		if s.tree.In(leaf, p) {
			set |= bit(leaf)
		}
	}
	return set
}

func isHistory(kind int) bool { return kind == api.Shallow || kind == api.Deep }
