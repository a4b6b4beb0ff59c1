package micro_test

import (
	"reflect"
	"slices"
	"testing"

	"spinet/api"
	"spinet/micro"
	"spinet/tree"
)

// room is a list that has room behind its end, with something there.
func room[T any](l []T, behind T) []T { return slices.Concat(l, []T{behind, behind})[:len(l)] }

// whole is a copy of a list, and of what has room behind its end.
func whole[T any](l []T) []T { return slices.Clone(l[:cap(l)]) }

// spoil changes all that a list has, and what has room behind its end.
func spoil[T any](l []T, with T) {
	l = l[:cap(l)]
	for i := range l {
		l[i] = with
	}
}

// roomy is a session whose lists have room behind their ends.
func roomy(r api.Run) api.Run {
	r.Hist, r.Env, r.Inner = room(r.Hist, 1<<3), room(r.Env, -77), room(r.Inner, -88)
	return r
}

// wholeOf is a copy of a session with all of its lists.
func wholeOf(r api.Run) api.Run {
	r.Hist, r.Env, r.Inner = whole(r.Hist), whole(r.Env), whole(r.Inner)
	return r
}

// same holds two with all of their lists against each other.
func same(r, a api.Run) bool { return reflect.DeepEqual(wholeOf(r), a) }

func spoilRun(r api.Run) {
	spoil(append(r.Hist, full), full)
	spoil(append(r.Env, -99), -99)
	spoil(append(r.Inner, -99), -99)
	spoil(r.Hist, full)
	spoil(r.Env, -99)
	spoil(r.Inner, -99)
}

func spoilOuts(l []api.Out) {
	out := api.Out{Kind: -9}
	spoil(append(l, out), out)
	spoil(l, out)
}

// pastTransitions are for past, with actions of each Kind.
func pastChart() api.Chart {
	c := loud(drawn(past, to(2, 1), to(9, 1), to(1, 7), to(1, 19), from(2), to(5, 6), to(12, 11), to(14, 17)))
	c.States[3].Exit = append(c.States[3].Exit, assign(0, "a+1"), api.Act{Kind: api.Cancel, N: 5})
	c.States[5].Exit = append(c.States[5].Exit, assign(1, "b+1"), log("1/0"))
	c.Trans[0].Acts = append(c.Trans[0].Acts, assign(2, "a+b"), api.Act{Kind: api.Send, N: 5, M: 6, Expr: "c"})
	return c
}

// runs are of past: some with histories' sets, and lists of each length.
func runs() []api.Run {
	return []api.Run{
		{},
		{Conf: set(0, 1), Hist: make([]uint32, 21), Env: []int64{0, 0, 0}, Status: api.Going},
		{Conf: set(0, 1), Hist: []uint32{7: set(4), 19: set(12, 17), 20: 0}, Env: []int64{1, 2, 3}, Inner: []int{1, 2}, Status: api.Going},
		{Conf: set(0, 2, 4, 5), Hist: []uint32{7: set(4)}, Env: []int64{1, 2, 3}, Inner: []int{1}, Status: api.Going},
		{Conf: set(0, 2, 3), Hist: make([]uint32, 40), Env: []int64{5}, Inner: []int{}, Status: api.Ended},
		{Conf: set(0, 9, 10, 12, 13, 14), Env: make([]int64, 30), Inner: []int{9, 8, 7, 6}, Status: api.Going},
		{Conf: full, Hist: make([]uint32, 21), Env: []int64{1, 2, 3}, Inner: make([]int, 60), Status: api.Failed},
	}
}

// rows are lists of past's transitions.
func rows() [][]int {
	return [][]int{nil, {}, {0}, {1}, {2}, {3}, {4}, {4, 4}, {5}, {6, 7}, {7, 6}, {-1, 5, 99}, {99}, {0, 1, 2, 3, 4, 5, 6, 7}, {4, -1, 4, -1, 4}}
}

// P12.2, R2: the session, its lists, the list of transitions, and the tree stay as
// they were, behind the lists' ends, too.

func TestWhatIsHandedInStays(t *testing.T) {
	one, other := planted(t, pastChart()), planted(t, pastChart())
	was := one.Chart()
	for _, r := range runs() {
		for _, row := range rows() {
			run, l := roomy(r), room(row, 4)
			wasRun, wasL := wholeOf(run), whole(l)
			micro.Step(one, run, l)
			if !same(run, wasRun) || !slices.Equal(whole(l), wasL) {
				t.Fatalf("%v, %v became %v, %v", wasRun, wasL, wholeOf(run), whole(l))
			}
		}
	}
	micro.Begin(one)
	micro.First(one)
	if !reflect.DeepEqual(one.Chart(), was) || !reflect.DeepEqual(one, other) {
		t.Errorf("the tree's chart became %v, was %v", one.Chart(), was)
	}
}

// What is told is new memory: it may be changed, and added to, and neither what
// was handed in nor what is told another time changes. So it is where nothing
// changes, too.

func TestWhatAStepTellsIsNew(t *testing.T) {
	one := planted(t, pastChart())
	was := one.Chart()
	for _, r := range runs() {
		for _, row := range rows() {
			run, l := roomy(r), room(row, 4)
			wasRun, wasL := wholeOf(run), whole(l)
			checkNew(t, func() (api.Run, []api.Out) { return micro.Step(one, run, l) })
			if !same(run, wasRun) || !slices.Equal(whole(l), wasL) {
				t.Fatalf("%v, %v became %v, %v", wasRun, wasL, wholeOf(run), whole(l))
			}
		}
	}
	if !reflect.DeepEqual(one.Chart(), was) {
		t.Errorf("the tree's chart became %v, was %v", one.Chart(), was)
	}
}

func checkNew(t *testing.T, tell func() (api.Run, []api.Out)) {
	t.Helper()
	told := func() session {
		r, outs := tell()
		return session{r, outs}
	}
	first, second := told(), told()
	want := copied(first)
	spoilRun(first.Run)
	spoilOuts(first.outs)
	if third := told(); !second.equals(want) || !third.equals(want) {
		t.Fatalf("told %v, and then %v, want %v", second, third, want)
	}
}

func copied(s session) session {
	s.Hist, s.Env, s.Inner, s.outs = slices.Clone(s.Hist), slices.Clone(s.Env), slices.Clone(s.Inner), slices.Clone(s.outs)
	return s
}

func TestWhatBeginAndFirstTellIsNew(t *testing.T) {
	for _, s := range []string{smallest, nest, past, ends, chain(), mixed()} {
		one := loudly(t, s)
		checkNew(t, func() (api.Run, []api.Out) { return micro.First(one) })
		checkNew(t, func() (api.Run, []api.Out) { return micro.Begin(one), nil })
		checkSame(t, "begin", begun(one), standing(one, 0))
	}
}

// A list of which nothing changes is another one all the same: changed, it
// changes nothing that was told.

func TestWhatStaysIsNew(t *testing.T) {
	one := planted(t, drawn(past, to(1, 20)))
	for _, l := range [][]int{nil, {}, {5}, {0}} {
		r := standing(one, set(0, 1)).keeps(7, 3).with(1, 2, 3).inside(4, 5).Run
		told, _ := micro.Step(one, r, l)
		if &told.Hist[0] == &r.Hist[0] || &told.Env[0] == &r.Env[0] || &told.Inner[0] == &r.Inner[0] {
			t.Errorf("a step with %v tells a list that was handed in", l)
		}
		r.Hist[7], r.Env[1], r.Inner[1] = 99, 99, 99
		if told.Hist[7] != set(3) || told.Env[1] != 2 || told.Inner[1] != 5 {
			t.Errorf("behind a step with %v told became %v", l, told)
		}
	}
}

// What is told grows into no list that was handed in: with room behind its end,
// too.

func TestWhatGrowsIsNew(t *testing.T) {
	one := loudly(t, nest, from(5))
	inside := make([]int, 2, 50)
	s := standing(one, inner)
	s.Inner = inside
	first := s.stepped(one, 0)
	second := s.stepped(one, 0, 0)
	checkSame(t, "one", first, standing(one, inner).inside(0, 0).happens(300))
	checkSame(t, "two", second, standing(one, inner).inside(0, 0).happens(300, 300))
	if !slices.Equal(inside[:50], make([]int, 50)) {
		t.Errorf("behind its end what came inside became %v", inside[:50])
	}
	again, more := first.stepped(one, 0), first.stepped(one)
	checkSame(t, "one more", again, standing(one, inner).inside(0, 0, 300, 300).logs(300))
	checkSame(t, "none more", more, standing(one, inner).inside(0, 0, 300))
}

// Nor is the chart changed that the tree was made of; and as that may be changed,
// nothing of it is kept.

func TestTheChartStays(t *testing.T) {
	handed, was := pastChart(), pastChart()
	one := planted(t, handed)
	s := standing(one, set(0, 1)).keeps(19, 12, 17)
	want := standing(one, set(0, 9, 10, 12, 13, 15, 17)).keeps(19, 12, 17).happens(201, 303, 109, 110, 112, 113, 115, 117, done(15))
	checkStep(t, one, s, []int{3}, want)
	if !reflect.DeepEqual(handed, was) {
		t.Errorf("the chart became %v, was %v", handed, was)
	}
	for k := range handed.States {
		handed.States[k] = api.State{Kind: api.Final, Entry: noise(900)}
	}
	for i := range handed.Trans {
		handed.Trans[i] = to(1, 20)
	}
	checkStep(t, one, s, []int{3}, want)
}

// Nothing is kept: each call tells of its own tree, session and list.

func TestNothingIsKept(t *testing.T) {
	one, other := loudly(t, past, to(2, 1), to(1, 7)), loudly(t, "C(A F)", to(1, 2))
	for range 3 {
		checkSame(t, "begin", begun(one), standing(one, 0))
		checkFirst(t, one, standing(one, set(0, 1)).happens(100, 101))
		checkStep(t, one, standing(one, set(0, 2, 4, 5)), []int{0}, standing(one, set(0, 1)).keeps(7, 4).keeps(8, 5).happens(205, 204, 202, 300, 101))
		checkStep(t, one, standing(one, set(0, 1)), []int{1}, standing(one, set(0, 2, 3)).happens(201, 301, 102, 103))
		checkStep(t, other, standing(other, set(0, 1)), []int{0}, standing(other, set(0, 2)).happens(201, 300, 102).as(api.Ended))
		checkStep(t, other, standing(other, set(0, 1)), nil, standing(other, set(0, 1)))
		checkSame(t, "begin", begun(other), standing(other, 0))
		checkFirst(t, other, standing(other, set(0, 1)).happens(100, 101))
	}
}

// Calls beside each other, with one tree and one session, tell what they tell
// alone.

func TestCallsBesideEachOther(t *testing.T) {
	one := planted(t, pastChart())
	r, l := standing(one, set(0, 2, 4, 5)).keeps(7, 3).with(1, 2, 3).inside(5).Run, []int{0, 4}
	first, step := firstOf(one), session{r, nil}.stepped(one, l...)
	answers := make(chan bool)
	for range 4 {
		go func() { answers <- asksWell(one, r, l, first, step) }()
	}
	for range 4 {
		if !<-answers {
			t.Error("told something else")
		}
	}
}

func asksWell(one *tree.Tree, r api.Run, l []int, first, step session) bool {
	ok := true
	for range 50 {
		told, outs := micro.Step(one, r, l)
		ok = ok && firstOf(one).equals(first) && step.equals(session{told, outs}) && begun(one).equals(standing(one, 0))
	}
	return ok
}
