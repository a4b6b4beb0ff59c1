package micro_test

import (
	"slices"
	"testing"

	"spinet/api"
	"spinet/choose"
	"spinet/enter"
	"spinet/expr"
	"spinet/leave"
	"spinet/micro"
	"spinet/tree"
)

// A second reading of the chapter: by Parents alone, with each state asked for
// itself, with actions done one by one, and with what is done worked out anew
// from the greatest number down, as what is in a state stands behind it.

// reading is a chart that may be.
type reading struct{ api.Chart }

func (r reading) has(i int) bool { return 0 <= i && i < len(r.Trans) }

// in is whether a state is in another one.
func (r reading) in(a, b int) bool {
	parent := r.States[a].Parent
	return parent >= 0 && (parent == b || r.in(parent, b))
}

// allIn are all states in a state.
func (r reading) allIn(s int) []int {
	var l []int
	for k := range r.States {
		if r.in(k, s) {
			l = append(l, k)
		}
	}
	return l
}

func (r reading) isA(s int, kinds ...int) bool { return slices.Contains(kinds, r.States[s].Kind) }

// sources are those that transitions may be from.
func (r reading) sources() []int {
	var l []int
	for s := 1; s < len(r.States); s++ {
		if r.isA(s, api.Atomic, api.Compound, api.Parallel) {
			l = append(l, s)
		}
	}
	return l
}

// areApart is whether two may be Targets of one transition.
func (r reading) areApart(a, b int) bool {
	a, b = r.counted(a), r.counted(b)
	if a == b || r.in(a, b) || r.in(b, a) {
		return false
	}
	outer := r.States[a].Parent
	for !r.in(b, outer) {
		outer = r.States[outer].Parent
	}
	return r.isA(outer, api.Parallel)
}

func (r reading) counted(s int) int {
	if isHistory(r.States[s].Kind) {
		return r.States[s].Parent
	}
	return s
}

// initials are all states that a state's Initial may be.
func (r reading) initials(s int) []int {
	outer := s
	if isHistory(r.States[s].Kind) {
		outer = r.States[s].Parent
	} else if !r.isA(s, api.Compound) {
		return nil
	}
	return slices.DeleteFunc(r.allIn(outer), func(k int) bool {
		return isHistory(r.States[k].Kind) || r.isA(s, api.Shallow) && r.States[k].Parent != outer
	})
}

// mayKeep are all states that a history's set may have.
func (r reading) mayKeep(h int) uint32 {
	of := r.initials(h)
	if r.isA(h, api.Deep) {
		of = slices.DeleteFunc(of, func(k int) bool { return !r.isA(k, api.Atomic, api.Final) })
	}
	return set(of...)
}

// walk is a step of the reading.
type walk struct {
	reading
	session
}

func (r reading) step(one *tree.Tree, run api.Run, l []int) session {
	w := walk{r, copied(session{Run: run})}
	for len(w.Hist) < len(r.States) {
		w.Hist = append(w.Hist, 0)
	}
	l = slices.DeleteFunc(slices.Clone(l), func(i int) bool { return !r.has(i) })
	w.leave(one, l)
	for _, i := range l {
		w.all(r.Trans[i].Acts)
	}
	w.enter(one, l)
	return w.session
}

func (w *walk) leave(one *tree.Tree, l []int) {
	conf := w.Conf
	var left []int
	for s := range w.States {
		reached := func(i int) bool { reach := leave.Reach(one, i); return reach >= 0 && w.in(s, reach) }
		if conf>>s&1 == 1 && slices.ContainsFunc(l, reached) {
			left = append(left, s)
		}
	}
	for h, history := range w.States {
		if !isHistory(history.Kind) || !slices.Contains(left, history.Parent) {
			continue
		}
		w.Hist[h] = 0
		for k, of := range w.States {
			shallow := w.isA(h, api.Shallow) && of.Parent == history.Parent
			deep := w.isA(h, api.Deep) && w.in(k, history.Parent) && w.isA(k, api.Atomic, api.Final)
			if conf>>k&1 == 1 && (shallow || deep) {
				w.Hist[h] |= set(k)
			}
		}
	}
	slices.Reverse(left)
	for _, s := range left {
		w.all(w.States[s].Exit)
		w.Conf &^= set(s)
	}
}

func (w *walk) enter(one *tree.Tree, l []int) {
	var entered uint32
	for _, i := range l {
		if len(w.Trans[i].Targets) > 0 {
			entered |= enter.Set(one, w.Hist, leave.Reach(one, i), w.Trans[i].Targets)
		}
	}
	for _, s := range members(entered) {
		if w.Conf>>s&1 == 0 {
			w.enterOne(s)
		}
	}
}

func (w *walk) enterOne(s int) {
	w.Conf |= set(s)
	w.all(w.States[s].Entry)
	if !w.isA(s, api.Final) {
		return
	}
	outer := w.States[s].Parent
	if outer == 0 {
		w.Status = api.Ended
		return
	}
	w.Inner = append(w.Inner, done(outer))
	if further := w.States[outer].Parent; w.isA(further, api.Parallel) && w.areDone()[further] {
		w.Inner = append(w.Inner, done(further))
	}
}

// areDone tells it of each state.
func (w *walk) areDone() []bool {
	is := make([]bool, len(w.States))
	for s := range w.States {
		is[s] = w.isA(s, api.Parallel)
	}
	for s := len(w.States) - 1; s > 0; s-- {
		outer := w.States[s].Parent
		switch {
		case w.isA(outer, api.Compound) && w.isA(s, api.Final) && w.Conf>>s&1 == 1:
			is[outer] = true
		case w.isA(outer, api.Parallel) && !isHistory(w.States[s].Kind):
			is[outer] = is[outer] && is[s]
		}
	}
	return is
}

// all are done up to the first mishap.
func (w *walk) all(l []api.Act) {
	for _, a := range l {
		if !w.did(a) {
			w.Inner = append(w.Inner, api.EventError)
			return
		}
	}
}

func (w *walk) did(a api.Act) bool {
	v, err := expr.Of(a.Expr, w.Env)
	isNumber := err == nil && v.Kind == api.Int
	switch a.Kind {
	case api.Raise:
		w.Inner = append(w.Inner, a.N)
		return true
	case api.Cancel:
		w.outs = append(w.outs, api.Out{Kind: api.Cancel, To: int64(a.N)})
		return true
	case api.Send:
		if isNumber {
			w.outs = append(w.outs, api.Out{Kind: api.Send, Event: a.N, Delay: a.M, To: v.N})
		}
	case api.Log:
		if isNumber {
			w.outs = append(w.outs, api.Out{Kind: api.Log, To: v.N})
		}
	case api.Assign:
		isNumber = isNumber && a.N < len(w.Env)
		if isNumber {
			w.Env[a.N] = v.N
		}
	}
	return isNumber
}

// first is First of the reading.
func (r reading) first(one *tree.Tree) session {
	w := walk{r, session{Run: api.Run{Hist: make([]uint32, len(r.States)), Env: make([]int64, r.Vars), Status: api.Going}}}
	w.enterOne(0)
	for _, s := range members(enter.Set(one, nil, 0, r.States[0].Initial)) {
		w.enterOne(s)
	}
	return w.session
}

// isWhole is whether a set is, from a state on that is in it.
func (r reading) isWhole(conf uint32, from int) bool {
	for s := range 32 {
		if conf>>s&1 == 0 {
			continue
		}
		if s >= len(r.States) || isHistory(r.States[s].Kind) || s != from && conf>>r.States[s].Parent&1 == 0 {
			return false
		}
		var in, kids int
		for k, one := range r.States {
			if one.Parent == s && !isHistory(one.Kind) {
				kids++
				in += int(conf >> k & 1)
			}
		}
		if r.isA(s, api.Compound) && in != 1 || r.isA(s, api.Parallel) && in != kids {
			return false
		}
	}
	return conf>>from&1 == 1
}

// areSuch is whether histories' sets are such as whole ones leave: each empty, or
// what a whole set has of its Parent.
func (r reading) areSuch(hist []uint32) bool {
	for h, of := range hist {
		if of != 0 && (h >= len(r.States) || !isHistory(r.States[h].Kind) || !r.isSuch(h, of)) {
			return false
		}
	}
	return true
}

func (r reading) isSuch(h int, of uint32) bool {
	outer := r.States[h].Parent
	if of&^r.mayKeep(h) != 0 {
		return false
	}
	if r.isA(h, api.Shallow) {
		return len(members(of)) == 1 || r.isA(outer, api.Parallel) && of == r.mayKeep(h)
	}
	conf := of | set(outer)
	for _, leaf := range members(of) {
		for s := leaf; s != outer; s = r.States[s].Parent {
			conf |= set(s)
		}
	}
	return r.isWhole(conf, outer)
}

// checkByReading holds a step against the reading, and tells what it came to.
func checkByReading(t *testing.T, one *tree.Tree, r reading, run api.Run, l []int) session {
	t.Helper()
	got := session{Run: run}.stepped(one, l...)
	if want := r.step(one, run, l); !got.equals(want) {
		t.Fatalf("a step of %v with %v told\n%v,\nwant\n%v,\nin %v", run, l, got, want, r)
	}
	return got
}

// P12.3: what is whole stays whole, and histories' sets stay such.

func checkWhole(t *testing.T, r reading, s session, how string) {
	t.Helper()
	if !r.isWhole(s.Conf, 0) || !r.areSuch(s.Hist) {
		t.Fatalf("%s active is %v, with histories' sets %v, in %v", how, members(s.Conf), s.Hist, r)
	}
}

// What may have happened on a walk.
type happened struct {
	steps, several, recorded, dones, ends, mishaps, empty int
}

func (h *happened) count(r reading, was api.Run, l []int, is session) {
	h.steps++
	if len(l) > 1 {
		h.several++
	}
	if !slices.Equal(was.Hist, is.Hist) {
		h.recorded++
	}
	if is.Status == api.Ended {
		h.ends++
	}
	for _, event := range is.Inner[len(was.Inner):] {
		if event >= api.EventDone {
			h.dones++
		}
		if event == api.EventError {
			h.mishaps++
		}
	}
	for _, s := range is.Hist {
		if s != 0 {
			return
		}
	}
	h.empty++
}

// goOn walks so many steps from the beginning, each with what layer 10 keeps for
// an event; a session that has ended goes on as any other one.
func goOn(t *testing.T, m *maker, r reading, steps int, h *happened) {
	t.Helper()
	one := planted(t, r.Chart)
	s := firstOf(one)
	if want := r.first(one); !s.equals(want) {
		t.Fatalf("First told\n%v,\nwant\n%v,\nin %v", s, want, r)
	}
	checkWhole(t, r, s, "at first")
	for range steps {
		gathered, _ := choose.Gather(one, s.Conf, s.Env, events[m.below(len(events))])
		l := choose.Sift(one, s.Conf, gathered)
		next := checkByReading(t, one, r, s.Run, l)
		checkWhole(t, r, next, "behind a step")
		h.count(r, s.Run, l, next)
		s = next
		if len(s.Inner) > 100 {
			s.Inner = nil
		}
	}
}

// P12.1, P12.3: walks over charts of each size.

func TestWalks(t *testing.T) {
	var h happened
	for seed := range uint32(1500) {
		m := maker{x: seed*2654435761 + 1}
		goOn(t, &m, m.reading(2+int(seed%23)), 12, &h)
	}
	if h.steps < 10_000 || h.several < 500 || h.recorded < 500 || h.dones < 1000 || h.ends < 500 || h.mishaps < 1000 || h.steps-h.empty < 2000 {
		t.Errorf("the walks had just %+v", h)
	}
}

// Steps from anywhere, with any list.

func TestStepsFromAnywhere(t *testing.T) {
	for seed := range uint32(600) {
		m := maker{x: seed*2654435761 + 5}
		r := m.reading(2 + int(seed%23))
		one := planted(t, r.Chart)
		for range 10 {
			checkByReading(t, one, r, m.run(r), m.list(r))
		}
	}
}

// All charts of up to five states, of each Kind, with each Initial that may be,
// all that a session of them may come to by one transition at a time of all that
// may be, of one Target, or none.

func TestAllSmallCharts(t *testing.T) {
	charts, steps := 0, 0
	for size := 2; size <= 5; size++ {
		growAll([]api.State{{Kind: api.Compound, Parent: -1}}, size, func(c api.Chart) {
			if tree, err := tree.New(c); err == nil && tree != nil {
				charts++
				steps += checkAllSteps(t, c)
			}
		})
	}
	if charts < 500 || steps < 50_000 {
		t.Errorf("%d charts, %d steps", charts, steps)
	}
}

// growAll hands on all charts of so many states that begin with these, each of
// the others in the one ahead of it, or in one that that is in, with each
// Initial.
func growAll(states []api.State, size int, check func(api.Chart)) {
	if len(states) == size {
		eachInitial(api.Chart{States: slices.Clone(states)}, 0, check)
		return
	}
	for parent := len(states) - 1; parent >= 0; parent = states[parent].Parent {
		for kind := api.Atomic; kind <= api.Deep; kind++ {
			growAll(append(slices.Clip(states), api.State{Kind: kind, Parent: parent}), size, check)
		}
	}
}

// eachInitial gives the states from s on each Initial that they may have.
func eachInitial(c api.Chart, s int, check func(api.Chart)) {
	if s == len(c.States) {
		check(c)
		return
	}
	of := (reading{c}).initials(s)
	if len(of) == 0 {
		eachInitial(c, s+1, check)
	}
	for _, first := range of {
		c.States = slices.Clone(c.States)
		c.States[s].Initial = []int{first}
		eachInitial(c, s+1, check)
	}
}

// pieces are the charts with these states that have, together, all transitions
// of one Target, or none: each with as many as a chart may have.
func pieces(c api.Chart) []reading {
	var trans []api.Trans
	for _, s := range (reading{c}).sources() {
		trans = append(trans, from(s))
		for target := 1; target < len(c.States); target++ {
			trans = append(trans, to(s, target), within(s, target))
		}
	}
	var all []reading
	for some := range slices.Chunk(trans, api.MaxTrans) {
		c.Trans = slices.Clone(some)
		all = append(all, reading{loud(c)})
	}
	return all
}

// stands is how a session does, as a key.
type stands struct {
	conf uint32
	hist [5]uint32
}

// checkAllSteps tells how many steps it made.
func checkAllSteps(t *testing.T, c api.Chart) int {
	t.Helper()
	steps := 0
	seen := map[stands]int{}
	var open []api.Run
	add := func(s session) {
		key := stands{conf: s.Conf}
		copy(key.hist[:], s.Hist)
		if seen[key]++; seen[key] == 1 {
			open = append(open, api.Run{Conf: s.Conf, Hist: s.Hist, Status: api.Going})
		}
	}
	all := pieces(c)
	trees := make([]*tree.Tree, len(all))
	for i, r := range all {
		trees[i] = planted(t, r.Chart)
		s := firstOf(trees[i])
		checkWhole(t, r, s, "at first")
		add(s)
	}
	for len(open) > 0 {
		run := open[0]
		open = open[1:]
		for n, r := range all {
			for i, one := range r.Trans {
				if run.Conf>>one.Source&1 == 1 {
					next := checkByReading(t, trees[n], r, run, []int{i})
					checkWhole(t, r, next, "behind a step")
					add(next)
					steps++
				}
			}
		}
	}
	return steps
}

// Each two transitions of one Target of charts with regions, that layer 10 keeps:
// from each way in which a session may stand behind one of them alone.

func TestEachTwo(t *testing.T) {
	steps := 0
	for _, s := range []string{"C(P(C(A A) C(A F)))", "C(A P(C(A F S) C(A) D))", "C(P(C(A F) P(A C(A F))))"} {
		for _, r := range pieces(drawn(s)) {
			one := planted(t, r.Chart)
			for _, run := range behindOne(one, r) {
				steps += checkEachOther(t, one, r, run)
			}
		}
	}
	if steps < 10_000 {
		t.Errorf("just %d steps", steps)
	}
}

// behindOne is each way once.
func behindOne(one *tree.Tree, r reading) []api.Run {
	var all []api.Run
	start := firstOf(one)
	for i := range r.Trans {
		s := start.stepped(one, i)
		same := func(a api.Run) bool { return a.Conf == s.Conf && slices.Equal(a.Hist, s.Hist) }
		if start.Conf>>r.Trans[i].Source&1 == 1 && !slices.ContainsFunc(all, same) {
			all = append(all, api.Run{Conf: s.Conf, Hist: s.Hist, Status: api.Going})
		}
	}
	return all
}

// checkEachOther tells how many steps it made.
func checkEachOther(t *testing.T, one *tree.Tree, r reading, run api.Run) int {
	t.Helper()
	steps := 0
	for a := range r.Trans {
		for b := range r.Trans {
			if set(r.Trans[a].Source, r.Trans[b].Source)&^run.Conf == 0 {
				l := choose.Sift(one, run.Conf, []int{a, b})
				checkWhole(t, r, checkByReading(t, one, r, run, l), "behind a step")
				steps++
			}
		}
	}
	return steps
}

// P1, P12.1, P12.3: whatever charts, sessions, lists and numbers there are.

func FuzzMicro(f *testing.F) {
	f.Add(uint32(1), 0, -1, 23, 7, uint32(3), int64(5))
	f.Add(uint32(77), 1<<62, -1<<63, 1<<63-1, 3, full, int64(-1<<63))
	f.Fuzz(func(t *testing.T, seed uint32, i, k, n, event int, conf uint32, value int64) {
		m := maker{x: seed}
		r := m.reading(2 + m.below(23))
		var h happened
		goOn(t, &m, r, 5, &h)
		one := planted(t, r.Chart)
		run := m.run(r)
		checkByReading(t, one, r, run, []int{i, k, n})
		run.Conf, run.Env, run.Inner, run.Status = conf, append(run.Env, value), append(run.Inner, event), event
		checkByReading(t, one, r, run, append(m.list(r), i))
		for s := range run.Hist {
			run.Hist[s] = m.set()
		}
		micro.Step(one, run, append(m.list(r), k, n))
	})
}
