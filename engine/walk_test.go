package engine_test

import (
	"slices"
	"testing"

	"spinet/api"
	"spinet/choose"
	"spinet/leave"
)

// P15.1: Start and Take tell what layer 13's do, in every field.

func checkStartByWalk(t *testing.T, one twin, r reading) session {
	t.Helper()
	got, want := started(one), walked(one)
	if !got.equals(want) {
		t.Fatalf("Start told\n%v,\nwant\n%v,\nin %v", got, want, r)
	}
	checkFollows(t, one, r, got)
	return got
}

func checkTakeByWalk(t *testing.T, one twin, r reading, run api.Run, event int) session {
	t.Helper()
	s := session{Run: run}
	got, want := s.taken(one, event), s.walkedOn(one, event)
	if !got.equals(want) {
		t.Fatalf("event %d, where it stood at\n%v, told\n%v,\nwant\n%v,\nin %v", event, run, got, want, r)
	}
	checkFollows(t, one, r, got)
	return got
}

// nobodys is an event that no transition of a chart has.
const nobodys = 5000

// checkFollows asks what layer 13 says besides: where Status is Going nothing is
// inside; and there, without Guards at event 0, an event that no transition has
// changes nothing.
func checkFollows(t *testing.T, one twin, r reading, s session) {
	t.Helper()
	if s.Status != api.Going {
		return
	}
	if len(s.Inner) > 0 {
		t.Fatalf("Going with %v inside, in %v", s.Inner, r)
	}
	if slices.ContainsFunc(r.Trans, func(one api.Trans) bool { return one.Event == 0 && one.Guard != "" }) {
		return
	}
	for _, event := range []int{nobodys, 1003, -1} {
		if next := s.taken(one, event); !next.equals(session{Run: s.Run}) {
			t.Fatalf("event %d, where it stood at %v, told %v, in %v", event, s, next, r)
		}
	}
}

// happened is what may have on the way: to the session, and in the round for the
// event itself.
type happened struct {
	going, ended, rest, withoutFuel, tooMany, notGoing                     int
	steps, mishaps, both, internal, several, clashes, histories, kept, set int
}

// count counts what an event came to, where it stood so.
func (h *happened) count(one twin, r reading, run api.Run, event int, s session) {
	if run.Status != api.Going {
		h.notGoing++
		return
	}
	h.countEnd(s)
	gathered, mishaps := choose.Gather(one.tree, run.Conf, run.Env, event)
	kept := choose.Sift(one.tree, run.Conf, gathered)
	count := func(n *int, is bool) {
		if is {
			*n++
		}
	}
	count(&h.steps, len(kept) > 0)
	count(&h.several, len(kept) > 1)
	count(&h.clashes, len(kept) < len(gathered))
	count(&h.mishaps, mishaps > 0)
	count(&h.both, mishaps > 0 && len(kept) > 0)
	for _, i := range kept {
		trans := r.Trans[i]
		count(&h.internal, trans.Internal && leave.Reach(one.tree, i) == trans.Source)
		for _, target := range trans.Targets {
			is := isHistory(r.States[target].Kind)
			count(&h.histories, is)
			count(&h.kept, is && target < len(run.Hist) && run.Hist[target] != 0)
			count(&h.set, is && leave.Set(one.tree, run.Conf, i)>>r.States[target].Parent&1 == 1)
		}
	}
}

func (h *happened) countEnd(s session) {
	switch {
	case s.Status == api.Going:
		h.going++
	case s.Status == api.Ended:
		h.ended++
		if len(s.Inner) > 0 {
			h.rest++
		}
	case len(s.Inner) > api.MaxInner:
		h.tooMany++
	default:
		h.withoutFuel++
	}
}

// goOn walks so many events from the start; a session that isn't Going any more
// goes on, once it was seen that it doesn't.
func goOn(t *testing.T, m *maker, r reading, events int, h *happened) {
	t.Helper()
	one := made(t, r.Chart)
	s := checkStartByWalk(t, one, r)
	h.countEnd(s)
	for range events {
		if !r.isWhole(s.Conf) {
			t.Fatalf("%v is not whole, in %v", members(s.Conf), r)
		}
		if s.Status != api.Going {
			event := m.event(r)
			h.count(one, r, s.Run, event, checkTakeByWalk(t, one, r, s.Run, event))
			s.Status, s.Inner = api.Going, nil
		}
		event := m.event(r)
		next := checkTakeByWalk(t, one, r, s.Run, event)
		h.count(one, r, s.Run, event, next)
		s = next
	}
}

// P15.3: from the start on, event by event, over charts of each size.

func TestWalks(t *testing.T) {
	var h happened
	for seed := range uint32(2000) {
		m := maker{x: seed*2654435761 + 1}
		goOn(t, &m, m.reading(2+int(seed%23)), 10, &h)
	}
	if h.going < 15000 || h.ended < 150 || h.rest < 80 || h.withoutFuel < 1500 || h.tooMany < 700 || h.notGoing < 2000 || h.steps < 3000 ||
		h.mishaps < 150 || h.both < 50 || h.internal < 200 || h.several < 120 || h.clashes < 300 || h.histories < 300 || h.kept < 200 || h.set < 200 {
		t.Errorf("the walks had just %+v", h)
	}
}

// P15.1: from any whole set, and histories such as layer 8 says something of, also
// such as no session has left.

func TestFromWholeSets(t *testing.T) {
	var h happened
	for seed := range uint32(2000) {
		m := maker{x: seed*2654435761 + 5}
		r := m.reading(2 + int(seed%23))
		one := made(t, r.Chart)
		for range 8 {
			run, event := m.whole(r), m.event(r)
			h.count(one, r, run, event, checkTakeByWalk(t, one, r, run, event))
		}
	}
	if h.going < 7000 || h.ended < 400 || h.rest < 400 || h.withoutFuel < 3000 || h.tooMany < 1500 || h.steps < 2500 ||
		h.mishaps < 600 || h.both < 200 || h.internal < 150 || h.several < 80 || h.clashes < 150 || h.histories < 200 || h.kept < 100 || h.set < 120 {
		t.Errorf("there were just %+v", h)
	}
}

// From anywhere: with sets that aren't whole, lists of any length, and histories
// with any sets. Here the chapter leaves open what is told, and it is what layer 13
// tells.

func TestFromAnywhere(t *testing.T) {
	var h happened
	for seed := range uint32(1000) {
		m := maker{x: seed*2654435761 + 9}
		r := m.reading(2 + int(seed%23))
		one := made(t, r.Chart)
		for range 8 {
			run, event := m.run(r), m.event(r)
			for k := range run.Hist {
				if m.below(3) == 0 {
					run.Hist[k] = m.set()
				}
			}
			h.count(one, r, run, event, checkTakeByWalk(t, one, r, run, event))
		}
	}
	if h.going < 1200 || h.ended < 120 || h.withoutFuel < 700 || h.tooMany < 300 || h.notGoing < 3000 || h.steps < 700 ||
		h.mishaps < 150 || h.both < 60 || h.internal < 40 || h.several < 60 || h.clashes < 120 || h.histories < 40 || h.kept < 10 || h.set < 10 {
		t.Errorf("there were just %+v", h)
	}
}

// P1, P15.1, P15.3: whatever charts, sessions and numbers there are.

func FuzzEngine(f *testing.F) {
	f.Add(uint32(1), 0, -1, uint32(3), int64(5))
	f.Add(uint32(77), 1<<62, -1<<63, full, int64(-1<<63))
	f.Fuzz(func(t *testing.T, seed uint32, event, status int, conf uint32, value int64) {
		m := maker{x: seed}
		r := m.reading(2 + m.below(23))
		var h happened
		goOn(t, &m, r, 5, &h)
		one := made(t, r.Chart)
		checkTakeByWalk(t, one, r, m.whole(r), m.event(r))
		run := m.run(r)
		checkTakeByWalk(t, one, r, run, event)
		run.Conf, run.Env, run.Inner = conf, append(run.Env, value), append(run.Inner, event)
		checkTakeByWalk(t, one, r, run, m.event(r))
		run.Status = status
		checkTakeByWalk(t, one, r, run, m.event(r))
		run.Status = api.Going
		for s := range run.Hist {
			run.Hist[s] = m.set()
		}
		checkTakeByWalk(t, one, r, run, m.event(r))
	})
}
