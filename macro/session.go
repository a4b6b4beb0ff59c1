package macro

import (
	"spinet/api"
	"spinet/choose"
	"spinet/micro"
	"spinet/tree"
)

// noEvent is the event of transitions that take none.
const noEvent = 0

// session is one on its way through rounds, the fuel that is left for these, and
// what went out so far.
type session struct {
	tree *tree.Tree
	run  api.Run
	fuel int
	out  []api.Out
}

func (s *session) isGoing() bool { return s.run.Status == api.Going }

// settle asks for the Status behind each round: one without transitions may fail,
// too, and then nothing is taken out any more.
func (s *session) settle() {
	for s.isGoing() {
		if s.round(noEvent) || !s.isGoing() {
			continue
		}
		if len(s.run.Inner) == 0 {
			return
		}
		s.round(s.takeOut())
	}
}

// takeOut takes the first event that is inside.
func (s *session) takeOut() int {
	event := s.run.Inner[0]
	s.run.Inner = s.run.Inner[1:]
	return event
}

// round tells whether it had transitions.
func (s *session) round(event int) bool {
	if s.fuel == 0 {
		s.run.Status = api.Failed
		return false
	}
	s.fuel--
	l, mishaps := choose.Gather(s.tree, s.run.Conf, s.run.Env, event)
	l = choose.Sift(s.tree, s.run.Conf, l)
	for range mishaps {
		s.run.Inner = append(s.run.Inner, api.EventError)
	}
	if len(l) > 0 {
		s.step(l)
	}
	if len(s.run.Inner) > api.MaxInner {
		s.run.Status = api.Failed
	}
	return len(l) > 0
}

// step does a step. What goes out stands behind all that went out.
func (s *session) step(l []int) {
	run, out := micro.Step(s.tree, s.run, l)
	s.run = run
	s.out = append(s.out, out...)
}
