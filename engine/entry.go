package engine

import "spinet/api"

// entry is a set to which a transition's states are added.
type entry struct {
	*session
	set   uint32
	asked uint32 // the histories that were added, or are being added
}

// entered is what a transition enters, with the histories as they are.
func (s *session) entered(one choice) uint32 {
	e := entry{session: s}
	for _, target := range one.Targets {
		e.addBelow(target)
	}
	for _, target := range one.Targets {
		e.addAbove(s.real(target), one.reach)
	}
	return e.set
}

// real is what a Target really is.
func (s *session) real(target int) uint32 {
	switch {
	case !s.isHistory(target):
		return bit(target)
	case s.run.Hist[target] != 0:
		return s.run.Hist[target] & s.states()
	}
	return bit(s.chart.States[target].Initial[0])
}

// addBelow takes the table's word, where the set has nothing in the state yet.
func (e *entry) addBelow(s int) {
	switch {
	case e.isHistory(s):
		e.addPast(s)
	case e.set&e.Below(s) == 0:
		e.set |= e.Default(s)
	case e.isA(s, api.Parallel):
		e.set |= bit(s)
		e.addMissing(s)
	default:
		e.set |= bit(s)
		e.addAll(bit(e.chart.States[s].Initial[0]), s)
	}
}

// addPast adds what is below a history. None is asked twice: histories that stand
// for each other would come to no end.
func (e *entry) addPast(h int) {
	if e.asked&bit(h) == 0 {
		e.asked |= bit(h)
		e.addAll(e.real(h), e.chart.States[h].Parent)
	}
}

// addAll adds all that is below them ahead of anything above one of them: what is
// above fills just those children of Parallels that have nothing.
func (e *entry) addAll(set uint32, top int) {
	for s := range rising(set) {
		e.addBelow(s)
	}
	e.addAbove(set, top)
}

// addAbove goes as far as the first state, with it, from a state that isn't in top.
func (e *entry) addAbove(set uint32, top int) {
	for s := range rising(set) {
		for outer := range falling(e.Up(s)) {
			if outer == top {
				break
			}
			e.set |= bit(outer)
			if e.isA(outer, api.Parallel) {
				e.addMissing(outer)
			}
		}
	}
}

// addMissing adds what those of a Parallel's children have by default that have
// nothing.
func (e *entry) addMissing(outer int) {
	for k := range rising(e.Kids(outer)) {
		if e.set&e.Below(k) == 0 {
			e.set |= e.Default(k)
		}
	}
}
