package engine_test

import (
	"reflect"
	"slices"
	"testing"

	"spinet/api"
	"spinet/engine"
)

// room is a list that has room behind its end, with something there.
func room[T any](l []T, behind T) []T { return slices.Concat(l, []T{behind, behind})[:len(l)] }

// whole is a copy of a list, and of what has room behind its end.
func whole[T any](l []T) []T { return slices.Clone(l[:cap(l)]) }

// spoil changes all that a list has, and what has room behind its end.
func spoil[T any](l []T, with T) {
	l = l[:cap(l)]
	for i := range l {
		l[i] = with
	}
}

// roomy is a session whose lists have room behind their ends.
func roomy(r api.Run) api.Run {
	r.Hist, r.Env, r.Inner = room(r.Hist, 1<<3), room(r.Env, -77), room(r.Inner, -88)
	return r
}

// wholeOf is a copy of a session with all of its lists.
func wholeOf(r api.Run) api.Run {
	r.Hist, r.Env, r.Inner = whole(r.Hist), whole(r.Env), whole(r.Inner)
	return r
}

// same holds two with all of their lists against each other.
func same(r, a api.Run) bool { return reflect.DeepEqual(wholeOf(r), a) }

func spoilRun(r api.Run) {
	spoil(append(r.Hist, full), full)
	spoil(append(r.Env, -99), -99)
	spoil(append(r.Inner, -99), -99)
	spoil(r.Hist, full)
	spoil(r.Env, -99)
	spoil(r.Inner, -99)
}

func spoilOuts(l []api.Out) {
	out := api.Out{Kind: -9}
	spoil(append(l, out), out)
	spoil(l, out)
}

// busyChart has transitions of each sort: with actions of each Kind, into a
// history, with mishaps, for what is done, for none, and one to the end.
func busyChart() api.Chart {
	c := loud(drawn("C(A C(A A S) P(C(A F) C(A F) D) A F)",
		does(on(7, 1, 5), raise(9), api.Act{Kind: api.Send, N: 5, M: 6, Expr: "c"}), on(9, 3, 4), does(on(9, 4, 1), assign(0, "a+1")),
		when("1/b==1", on(8, 1)), on(8, 1, 6), on(7, 8, 9), on(7, 11, 12), on(done(6), 6, 14),
		when("a==2", on(0, 1, 6)), does(on(api.EventError, 6), assign(1, "b+1"), log("1/0")), does(on(10, 14), raise(7), raise(10)),
		on(11, 6, 15), on(11, 1, 15)))
	c.States[15].Entry = append(c.States[15].Entry, raise(12), api.Act{Kind: api.Cancel, N: 5})
	return c
}

// runs are of busyChart: with lists of each length.
func runs() []api.Run {
	return []api.Run{
		{},
		{Conf: set(0, 1), Hist: make([]uint32, 16), Env: []int64{0, 0, 0}, Status: api.Going},
		{Conf: set(0, 1), Hist: []uint32{5: set(4), 13: 0}, Env: []int64{1, 2, 3}, Inner: []int{9, 2}, Status: api.Going},
		{Conf: set(0, 1), Env: []int64{1}, Inner: []int{7, 8, 9, 11, 7, 7}, Status: api.Going},
		{Conf: set(0, 1), Hist: make([]uint32, 40), Env: []int64{2, 1, 3, 4}, Inner: sevens(40), Status: api.Going},
		{Conf: set(0, 6, 7, 8, 10, 12), Hist: []uint32{1}, Env: []int64{1, 2, 3}, Inner: []int{api.EventError}, Status: api.Going},
		{Conf: set(0, 14), Env: make([]int64, 30), Inner: []int{9, 8, 7, 6}, Status: api.Going},
		{Conf: set(0, 14), Hist: []uint32{}, Env: []int64{}, Inner: []int{}, Status: api.Going},
		{Conf: full, Hist: make([]uint32, 16), Env: []int64{1, 2, 3}, Inner: make([]int, 60), Status: api.Going},
		{Conf: set(0, 15), Hist: make([]uint32, 16), Env: []int64{5}, Inner: []int{3}, Status: api.Ended},
		{Conf: set(0, 1), Hist: make([]uint32, 16), Env: []int64{1, 2, 3}, Inner: make([]int, 60), Status: api.Failed},
		{Conf: set(0, 1), Hist: []uint32{1, 2}, Env: []int64{5}, Inner: []int{7}},
	}
}

// P15.2, R2: the session, its lists and the table stay as they were, behind the
// lists' ends, too.

func TestWhatIsHandedInStays(t *testing.T) {
	one, other := made(t, busyChart()), made(t, busyChart())
	was := one.Chart()
	for _, r := range runs() {
		for event := range 13 {
			run := roomy(r)
			wasRun := wholeOf(run)
			engine.Take(one.Table, run, event)
			engine.Take(nil, run, event)
			if !same(run, wasRun) {
				t.Fatalf("behind event %d %v became %v", event, wasRun, wholeOf(run))
			}
		}
	}
	engine.Start(one.Table)
	if !reflect.DeepEqual(one.Chart(), was) || !reflect.DeepEqual(one, other) {
		t.Errorf("the table's chart became %v, was %v", one.Chart(), was)
	}
}

// What is told is new memory: it may be changed, and added to, and neither what
// was handed in nor what is told another time changes. So it is where nothing
// changes, too.

func TestWhatATakeTellsIsNew(t *testing.T) {
	one := made(t, busyChart())
	was := one.Chart()
	for _, r := range runs() {
		for event := range 13 {
			run := roomy(r)
			wasRun := wholeOf(run)
			checkNew(t, func() (api.Run, []api.Out) { return engine.Take(one.Table, run, event) })
			checkNew(t, func() (api.Run, []api.Out) { return engine.Take(nil, run, event) })
			if !same(run, wasRun) {
				t.Fatalf("behind event %d %v became %v", event, wasRun, wholeOf(run))
			}
		}
	}
	if !reflect.DeepEqual(one.Chart(), was) {
		t.Errorf("the table's chart became %v, was %v", one.Chart(), was)
	}
}

func checkNew(t *testing.T, tell func() (api.Run, []api.Out)) {
	t.Helper()
	told := func() session {
		r, outs := tell()
		return session{r, outs}
	}
	first, second := told(), told()
	want := copied(first)
	spoilRun(first.Run)
	spoilOuts(first.outs)
	if third := told(); !second.equals(want) || !third.equals(want) {
		t.Fatalf("told %v, and then %v, want %v", second, third, want)
	}
}

func copied(s session) session {
	s.Hist, s.Env, s.Inner, s.outs = slices.Clone(s.Hist), slices.Clone(s.Env), slices.Clone(s.Inner), slices.Clone(s.outs)
	return s
}

func TestWhatAStartTellsIsNew(t *testing.T) {
	twins := []twin{{}, made(t, busyChart()), made(t, crowded(11)), made(t, greatest(mixed())), loudly(t, "C(F A)")}
	for _, one := range twins {
		checkNew(t, func() (api.Run, []api.Out) { return engine.Start(one.Table) })
	}
}

// A list of which nothing changes is another one all the same: changed, it
// changes nothing that was told.

func TestWhatStaysIsNew(t *testing.T) {
	one := loudly(t, "C(A A)", does(on(7, 1), raise(9)))
	for _, status := range []int{api.Going, api.Ended, api.Failed, 0, 99} {
		for _, event := range []int{7, 8, 0} {
			r := standing(one, set(0, 1)).keeps(2, 1).with(1, 2, 3).inside(sevens(51)...).as(status).Run
			told, _ := engine.Take(one.Table, r, event)
			if &told.Hist[0] == &r.Hist[0] || &told.Env[0] == &r.Env[0] || &told.Inner[0] == &r.Inner[0] {
				t.Errorf("event %d tells a list that was handed in", event)
			}
			r.Hist[2], r.Env[1], r.Inner[1] = 99, 99, 99
			if told.Hist[2] != set(1) || told.Env[1] != 2 || told.Inner[1] != 7 {
				t.Errorf("behind event %d told became %v", event, told)
			}
		}
	}
}

// Lists of no elements that have room are none that what is told grows into.

func TestWhatGrowsIsNew(t *testing.T) {
	one := quietly(t, "C(A A F)", when(broken, on(7, 1)), on(7, 1, 3))
	inside, hist, env := make([]int, 2, 50), make([]uint32, 0, 50), make([]int64, 0, 50)
	s := session{Run: api.Run{Conf: set(0, 1), Hist: hist, Env: env, Inner: inside, Status: api.Going}}
	told := s.taken(one, 7)
	checkSame(t, "the end", told, standing(one, set(0, 3)).with().inside(0, 0, api.EventError).as(api.Ended))
	s.Inner = inside[:0]
	checkSame(t, "the end", s.taken(one, 7), standing(one, set(0, 3)).with().inside(api.EventError).as(api.Ended))
	empty := s.as(api.Failed).taken(one, 7)
	for _, r := range []api.Run{told.Run, empty.Run} {
		spoil(append(r.Inner, 1), 1)
		spoil(append(r.Hist, 1), 1)
		spoil(append(r.Env, 1), 1)
	}
	if !slices.Equal(inside[:50], make([]int, 50)) || !slices.Equal(hist[:50], make([]uint32, 50)) || !slices.Equal(env[:50], make([]int64, 50)) {
		t.Errorf("behind their ends lists became %v, %v, %v", inside[:50], hist[:50], env[:50])
	}
}

// Nor is the chart changed that the table was made of; and as that may be changed,
// nothing of it is kept.

func TestTheChartStays(t *testing.T) {
	handed, was := busyChart(), busyChart()
	one := made(t, handed)
	s := started(one)
	want := s.taken(one, 7)
	if !reflect.DeepEqual(handed, was) {
		t.Errorf("the chart became %v, was %v", handed, was)
	}
	for k := range handed.States {
		handed.States[k] = api.State{Kind: api.Final, Entry: noise(900)}
	}
	for i := range handed.Trans {
		handed.Trans[i] = on(7, 1, 15)
	}
	checkStart(t, one, s)
	checkTake(t, one, s, 7, want)
}

// Nothing is kept: each call tells of its own table, session and event.

func TestNothingIsKept(t *testing.T) {
	one, other := loudly(t, "C(A A A)", on(7, 1, 2), on(0, 2, 3)), made(t, counts())
	failed := standing(other, set(0, 1)).with(39, 100, 0).logs(upTo(1, 39)...).as(api.Failed)
	for range 3 {
		checkStart(t, one, standing(one, set(0, 1)).logs(100, 101))
		checkTake(t, one, standing(one, set(0, 1)), 7, standing(one, set(0, 3)).logs(201, 300, 102, 202, 301, 103))
		checkTake(t, other, standing(other, set(0, 1)).with(0, 100, 0), 9, failed)
		checkStart(t, other, standing(other, set(0, 1)))
		checkTake(t, one, standing(one, set(0, 1)), 8, standing(one, set(0, 1)))
		checkTake(t, one, standing(one, set(0, 1)).inside(5, 7).as(api.Ended), 7, standing(one, set(0, 1)).inside(5, 7).as(api.Ended))
	}
}

// Calls beside each other, with one table and one session, tell what they tell
// alone.

func TestCallsBesideEachOther(t *testing.T) {
	one := made(t, busyChart())
	r := api.Run{Conf: set(0, 1), Hist: []uint32{5: set(4), 13: 0}, Env: []int64{1, 2, 3}, Inner: []int{9, 2}, Status: api.Going}
	start, take := started(one), session{r, nil}.taken(one, 7)
	answers := make(chan bool)
	for range 4 {
		go func() { answers <- asksWell(one, r, start, take) }()
	}
	for range 4 {
		if !<-answers {
			t.Error("told something else")
		}
	}
}

func asksWell(one twin, r api.Run, start, take session) bool {
	ok := true
	for range 50 {
		ok = ok && started(one).equals(start) && session{r, nil}.taken(one, 7).equals(take)
	}
	return ok
}
