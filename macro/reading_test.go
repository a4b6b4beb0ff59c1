package macro_test

import (
	"slices"
	"testing"

	"spinet/api"
	"spinet/choose"
	"spinet/macro"
	"spinet/micro"
	"spinet/tree"
)

// A second reading of the chapter: by a record of the rounds that were done, from
// which it is worked out anew each time what the next one is for, and whether
// there is one.

// reading is a chart that may be.
type reading struct{ api.Chart }

// in is whether a state is in another one.
func (r reading) in(a, b int) bool {
	parent := r.States[a].Parent
	return parent >= 0 && (parent == b || r.in(parent, b))
}

// allIn are all states in a state.
func (r reading) allIn(s int) []int {
	var l []int
	for k := range r.States {
		if r.in(k, s) {
			l = append(l, k)
		}
	}
	return l
}

func (r reading) isA(s int, kinds ...int) bool { return slices.Contains(kinds, r.States[s].Kind) }

// sources are those that transitions may be from.
func (r reading) sources() []int {
	var l []int
	for s := 1; s < len(r.States); s++ {
		if r.isA(s, api.Atomic, api.Compound, api.Parallel) {
			l = append(l, s)
		}
	}
	return l
}

// areApart is whether two may be Targets of one transition.
func (r reading) areApart(a, b int) bool {
	a, b = r.counted(a), r.counted(b)
	if a == b || r.in(a, b) || r.in(b, a) {
		return false
	}
	outer := r.States[a].Parent
	for !r.in(b, outer) {
		outer = r.States[outer].Parent
	}
	return r.isA(outer, api.Parallel)
}

func (r reading) counted(s int) int {
	if isHistory(r.States[s].Kind) {
		return r.States[s].Parent
	}
	return s
}

// initials are all states that a state's Initial may be.
func (r reading) initials(s int) []int {
	outer := s
	if isHistory(r.States[s].Kind) {
		outer = r.States[s].Parent
	} else if !r.isA(s, api.Compound) {
		return nil
	}
	return slices.DeleteFunc(r.allIn(outer), func(k int) bool {
		return isHistory(r.States[k].Kind) || r.isA(s, api.Shallow) && r.States[k].Parent != outer
	})
}

// mayKeep are all states that a history's set may have.
func (r reading) mayKeep(h int) uint32 {
	of := r.initials(h)
	if r.isA(h, api.Deep) {
		of = slices.DeleteFunc(of, func(k int) bool { return !r.isA(k, api.Atomic, api.Final) })
	}
	return set(of...)
}

// round is one that was done: to settle, for event 0 or for one that was inside, or
// for the event itself.
type round struct{ what, event, transitions, mishaps int }

const (
	itself = iota
	forNone
	forInner
)

// walk is a session of the reading, and the rounds that it has had.
type walk struct {
	one *tree.Tree
	session
	rounds []round
}

// next tells what the next round is for, if there is one.
func (w *walk) next() (round, bool) {
	if w.Status != api.Going {
		return round{}, false
	}
	asked := len(w.rounds) > 0 && w.rounds[len(w.rounds)-1].what == forNone && w.rounds[len(w.rounds)-1].transitions == 0
	if !asked {
		return round{what: forNone}, true
	}
	if len(w.Inner) == 0 {
		return round{}, false
	}
	event := w.Inner[0]
	w.Inner = w.Inner[1:]
	return round{what: forInner, event: event}, true
}

func (w *walk) do(r round) {
	if len(w.rounds) == 40 {
		w.Status = api.Failed
		return
	}
	gathered, mishaps := choose.Gather(w.one, w.Conf, w.Env, r.event)
	kept := choose.Sift(w.one, w.Conf, gathered)
	r.transitions, r.mishaps = len(kept), mishaps
	w.rounds = append(w.rounds, r)
	w.Inner = slices.Concat(w.Inner, slices.Repeat([]int{1001}, mishaps))
	if len(kept) > 0 {
		run, outs := micro.Step(w.one, w.Run, kept)
		w.session = session{run, slices.Concat(w.outs, outs)}
	}
	if len(w.Inner) >= 51 {
		w.Status = api.Failed
	}
}

func (w *walk) goOn() {
	for r, ok := w.next(); ok; r, ok = w.next() {
		w.do(r)
	}
}

// start and take are Start and Take of the reading.
func start(one *tree.Tree) *walk {
	run, outs := micro.First(one)
	w := &walk{one: one, session: session{run, outs}}
	w.goOn()
	return w
}

func take(one *tree.Tree, run api.Run, event int) *walk {
	w := &walk{one: one, session: copied(session{Run: run})}
	if run.Status == api.Going {
		w.do(round{event: event})
		w.goOn()
	}
	return w
}

// checkTakeByReading holds a Take against the reading, and tells how that went.
func checkTakeByReading(t *testing.T, one *tree.Tree, r reading, run api.Run, event int) *walk {
	t.Helper()
	got, want := session{Run: run}.taken(one, event), take(one, run, event)
	if !got.equals(want.session) {
		t.Fatalf("event %d, where it stood at %v, told\n%v,\nwant\n%v,\nin %v", event, run, got, want.session, r)
	}
	checkFollows(t, one, r, got)
	return want
}

func checkStartByReading(t *testing.T, one *tree.Tree, r reading) *walk {
	t.Helper()
	got, want := started(one), start(one)
	if !got.equals(want.session) {
		t.Fatalf("Start told\n%v,\nwant\n%v,\nin %v", got, want.session, r)
	}
	checkFollows(t, one, r, got)
	return want
}

// nobodys is an event that no transition of a chart has.
const nobodys = 5000

// P13.3: where Status is Going, nothing is inside; and there, without Guards at
// event 0, an event that no transition has changes nothing.

func checkFollows(t *testing.T, one *tree.Tree, r reading, s session) {
	t.Helper()
	if s.Status != api.Going {
		return
	}
	if len(s.Inner) > 0 {
		t.Fatalf("Going with %v inside, in %v", s.Inner, r)
	}
	if slices.ContainsFunc(r.Trans, func(one api.Trans) bool { return one.Event == 0 && one.Guard != "" }) {
		return
	}
	for _, event := range []int{nobodys, 5, -1} {
		if next := s.taken(one, event); !next.equals(session{Run: s.Run}) {
			t.Fatalf("event %d, where it stood at %v, told %v, in %v", event, s, next, r)
		}
	}
}

// happened is what may have on a walk.
type happened struct {
	settled, long, ended, rest, withoutFuel, tooMany, mishaps, both, inner int
}

func (h *happened) count(w *walk) {
	switch {
	case w.Status == api.Going:
		h.settled++
		if len(w.rounds) > 5 {
			h.long++
		}
	case w.Status == api.Ended:
		h.ended++
		if len(w.Inner) > 0 {
			h.rest++
		}
	case len(w.Inner) > api.MaxInner:
		h.tooMany++
	case len(w.rounds) == api.MaxFuel:
		h.withoutFuel++
	}
	for _, r := range w.rounds {
		if r.mishaps > 0 {
			h.mishaps++
			if r.transitions > 0 {
				h.both++
			}
		}
		if r.what == forInner && r.transitions > 0 {
			h.inner++
		}
	}
}

// goOn walks so many events from the start; a session that isn't Going any more
// goes on, once it was seen that it doesn't.
func goOn(t *testing.T, m *maker, r reading, events int, h *happened) {
	t.Helper()
	one := planted(t, r.Chart)
	w := checkStartByReading(t, one, r)
	h.count(w)
	for range events {
		if w.Status != api.Going {
			checkTakeByReading(t, one, r, w.Run, m.event(r))
			w.Status, w.Inner = api.Going, nil
		}
		w = checkTakeByReading(t, one, r, w.Run, m.event(r))
		h.count(w)
	}
}

// P13.1, P13.3: walks over charts of each size.

func TestWalks(t *testing.T) {
	var h happened
	for seed := range uint32(600) {
		m := maker{x: seed*2654435761 + 1}
		goOn(t, &m, m.reading(2+int(seed%23)), 10, &h)
	}
	if h.settled < 4000 || h.long < 150 || h.ended < 50 || h.rest < 20 || h.withoutFuel < 300 || h.tooMany < 200 || h.mishaps < 1000 || h.both < 500 || h.inner < 3000 {
		t.Errorf("the walks had just %+v", h)
	}
}

// Events from anywhere.

func TestFromAnywhere(t *testing.T) {
	var h happened
	for seed := range uint32(600) {
		m := maker{x: seed*2654435761 + 5}
		r := m.reading(2 + int(seed%23))
		one := planted(t, r.Chart)
		for range 8 {
			h.count(checkTakeByReading(t, one, r, m.run(r), m.event(r)))
		}
	}
	if h.settled < 500 || h.long < 250 || h.withoutFuel < 300 || h.tooMany < 200 || h.mishaps < 1000 || h.both < 300 || h.inner < 1500 {
		t.Errorf("there were just %+v", h)
	}
}

// A Start comes to what an event that no transition has comes to behind a First,
// as long as there is fuel; and an event comes to what it comes to where it is
// inside of a session that is settled, in which nothing is asked at event 0.

func TestHowOneMayComeToTheSame(t *testing.T) {
	starts, takes := 0, 0
	for seed := range uint32(1200) {
		m := maker{x: seed*2654435761 + 9}
		r := m.reading(2 + int(seed%23))
		one := planted(t, r.Chart)
		run, outs := micro.First(one)
		s := started(one)
		if len(start(one).rounds) < api.MaxFuel-1 && run.Status == api.Going {
			later := session{Run: run}.taken(one, nobodys)
			later.outs = slices.Concat(outs, later.outs)
			checkSame(t, "behind First", later, s)
			starts++
		}
		event := m.event(r)
		if _, mishaps := choose.Gather(one, s.Conf, s.Env, 0); s.Status == api.Going && mishaps == 0 && len(take(one, s.Run, event).rounds) < api.MaxFuel-2 {
			checkSame(t, "inside", s.inside(event).taken(one, nobodys), s.taken(one, event))
			takes++
		}
	}
	if starts < 500 || takes < 400 {
		t.Errorf("there were just %d starts, and %d events", starts, takes)
	}
}

// All charts of up to three states, of each Kind, with each Initial that may be,
// and each two transitions of one Target, or none, for event 0, for one that comes
// from outside and is raised by both, and for what is done: their starts, and two
// events.

func TestAllSmallCharts(t *testing.T) {
	charts := 0
	for size := 2; size <= 3; size++ {
		growAll([]api.State{{Kind: api.Compound, Parent: -1}}, size, func(c api.Chart) {
			if one, err := tree.New(c); err == nil && one != nil {
				charts += checkEachTwo(t, c)
			}
		})
	}
	if charts < 2000 {
		t.Errorf("just %d charts", charts)
	}
}

// checkEachTwo tells how many charts it made.
func checkEachTwo(t *testing.T, c api.Chart) int {
	t.Helper()
	c.Vars = 1
	all := transitions(c)
	for _, a := range all {
		for _, b := range all {
			c.Trans = []api.Trans{a, b}
			r := reading{loud(reading{c}.again())}
			one := planted(t, r.Chart)
			w := checkStartByReading(t, one, r)
			for _, event := range []int{7, 7, 0, done(1)} {
				w = checkTakeByReading(t, one, r, w.Run, event)
			}
		}
	}
	return len(all) * len(all)
}

// again is the chart in lists of its own.
func (r reading) again() api.Chart {
	c := r.Chart
	c.States, c.Trans = slices.Clone(c.States), slices.Clone(c.Trans)
	return c
}

// transitions are all of one Target, or none: those for event 0 are taken as long
// as the first variable isn't 3, those for 7 raise it.
func transitions(c api.Chart) []api.Trans {
	var all []api.Trans
	for _, s := range (reading{c}).sources() {
		for target := 0; target < len(c.States); target++ {
			var targets []int
			if target > 0 {
				targets = []int{target}
			}
			all = append(all,
				does(when("not a==3", on(0, s, targets...)), assign(0, "a+1")),
				does(on(7, s, targets...), raise(7)), on(7, s, targets...), on(done(1), s, targets...))
		}
	}
	return all
}

// growAll hands on all charts of so many states that begin with these, each of
// the others in the one ahead of it, or in one that that is in, with each
// Initial.
func growAll(states []api.State, size int, check func(api.Chart)) {
	if len(states) == size {
		eachInitial(api.Chart{States: slices.Clone(states)}, 0, check)
		return
	}
	for parent := len(states) - 1; parent >= 0; parent = states[parent].Parent {
		for kind := api.Atomic; kind <= api.Deep; kind++ {
			growAll(append(slices.Clip(states), api.State{Kind: kind, Parent: parent}), size, check)
		}
	}
}

// eachInitial gives the states from s on each Initial that they may have.
func eachInitial(c api.Chart, s int, check func(api.Chart)) {
	if s == len(c.States) {
		check(c)
		return
	}
	of := (reading{c}).initials(s)
	if len(of) == 0 {
		eachInitial(c, s+1, check)
	}
	for _, first := range of {
		c.States = slices.Clone(c.States)
		c.States[s].Initial = []int{first}
		eachInitial(c, s+1, check)
	}
}

// P1, P13.1, P13.3: whatever charts, sessions and numbers there are.

func FuzzMacro(f *testing.F) {
	f.Add(uint32(1), 0, -1, uint32(3), int64(5))
	f.Add(uint32(77), 1<<62, -1<<63, full, int64(-1<<63))
	f.Fuzz(func(t *testing.T, seed uint32, event, status int, conf uint32, value int64) {
		m := maker{x: seed}
		r := m.reading(2 + m.below(23))
		var h happened
		goOn(t, &m, r, 5, &h)
		one := planted(t, r.Chart)
		run := m.run(r)
		checkTakeByReading(t, one, r, run, event)
		run.Conf, run.Env, run.Inner = conf, append(run.Env, value), append(run.Inner, event)
		checkTakeByReading(t, one, r, run, m.event(r))
		run.Status = status
		checkTakeByReading(t, one, r, run, m.event(r))
		run.Status = api.Going
		for s := range run.Hist {
			run.Hist[s] = m.set()
		}
		macro.Take(one, run, m.event(r))
	})
}
