package engine

import (
	"spinet/api"
	"spinet/table"
)

// noEvent is the event of transitions that take none.
const noEvent = 0

// session is one on its way through rounds, the fuel that is left for these, and
// what went out so far. The lists of run are its own.
type session struct {
	plan
	run  api.Run
	fuel int
	out  []api.Out
}

func sessionOf(t *table.Table) *session {
	return &session{plan: planOf(t), fuel: api.MaxFuel}
}

func (s *session) isGoing() bool { return s.run.Status == api.Going }

// settle asks for the Status behind each round: one without transitions may fail,
// too, and then nothing is taken out any more.
func (s *session) settle() {
	for s.isGoing() {
		if s.round(noEvent) || !s.isGoing() {
			continue
		}
		if len(s.run.Inner) == 0 {
			return
		}
		s.round(s.takeOut())
	}
}

// takeOut takes the first event that is inside.
func (s *session) takeOut() int {
	event := s.run.Inner[0]
	s.run.Inner = s.run.Inner[1:]
	return event
}

// round tells whether it had transitions.
func (s *session) round(event int) bool {
	if s.fuel == 0 {
		s.run.Status = api.Failed
		return false
	}
	s.fuel--
	gathered, mishaps := s.gather(event)
	kept := s.sift(gathered)
	for range mishaps {
		s.comesInside(api.EventError)
	}
	if len(kept) > 0 {
		s.step(kept)
	}
	if len(s.run.Inner) > api.MaxInner {
		s.run.Status = api.Failed
	}
	return len(kept) > 0
}

// comesInside adds events behind all that are inside.
func (s *session) comesInside(events ...int) {
	s.run.Inner = append(s.run.Inner, events...)
}
