package engine

import (
	"slices"

	"spinet/api"
)

// choice is a transition that may be taken, its reach, and what it leaves.
type choice struct {
	api.Trans
	reach int
	left  uint32
}

func (s *session) choiceOf(i int) choice {
	c := choice{Trans: s.chart.Trans[i]}
	c.reach = s.reach(c.Trans)
	if c.reach != none {
		c.left = s.activeIn(c.reach)
	}
	return c
}

// activeIn are all active ones in a state. Below would pass by histories, and the
// document doesn't, where they are active.
func (s *session) activeIn(outer int) uint32 {
	var active uint32
	for k := range rising(s.run.Conf & s.states()) {
		if s.Up(k)&bit(outer) != 0 {
			active |= bit(k)
		}
	}
	return active
}

// gather tells which transitions are gathered, and how many mishaps there were: one
// counts each time that its transition is looked at.
func (s *session) gather(event int) ([]int, int) {
	var gathered []int
	mishaps := 0
	for leaf := range rising(s.run.Conf & s.leaves()) {
		i, missed := s.firstReady(s.Up(leaf)|bit(leaf), event)
		mishaps += missed
		if i != none && !slices.Contains(gathered, i) {
			gathered = append(gathered, i)
		}
	}
	return gathered, mishaps
}

// firstReady is the first one that is ready of those from a leaf, and from what it
// is in, and how many mishaps there were up to it.
func (s *session) firstReady(sources uint32, event int) (int, int) {
	mishaps := 0
	for source := range falling(sources) {
		for _, i := range s.From(source) {
			if s.chart.Trans[i].Event != event {
				continue
			}
			holds, mishap := s.Guard(i, s.run.Env)
			if holds {
				return i, mishaps
			}
			if mishap {
				mishaps++
			}
		}
	}
	return none, mishaps
}

// sift keeps those that don't clash.
func (s *session) sift(gathered []int) []choice {
	var kept []choice
	for _, i := range gathered {
		kept = s.hold(kept, s.choiceOf(i))
	}
	return kept
}

// hold is what is kept once one more was held against those that were kept. As it
// lets none go unless it is kept itself, whether it is kept is asked first.
func (s *session) hold(kept []choice, one choice) []choice {
	clashes := func(k choice) bool { return k.left&one.left != 0 }
	stays := func(k choice) bool { return clashes(k) && s.Up(one.Source)&bit(k.Source) == 0 }
	if slices.ContainsFunc(kept, stays) {
		return kept
	}
	return append(slices.DeleteFunc(kept, clashes), one)
}
