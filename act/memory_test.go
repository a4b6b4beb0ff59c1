package act_test

import (
	"slices"
	"testing"

	"spinet/act"
	"spinet/api"
)

// room is a list that has room behind its end, with something there.
func room[T any](l []T, behind T) []T { return slices.Concat(l, []T{behind, behind})[:len(l)] }

// whole is a copy of a list, and of what has room behind its end.
func whole[T any](l []T) []T { return slices.Clone(l[:cap(l)]) }

// spoil changes all that a list has, and what has room behind its end.
func spoil[T any](l []T, with T) {
	l = l[:cap(l)]
	for i := range l {
		l[i] = with
	}
}

func spoilAll(w told) {
	spoil(append(w.vars, -77), -77)
	spoil(append(w.outs, cancelled(-77)), cancelled(-77))
	spoil(append(w.ins, -77), -77)
	spoil(w.vars, -77)
	spoil(w.outs, cancelled(-77))
	spoil(w.ins, -77)
}

// rows are lists of actions: in some nothing is assigned, in some nothing goes
// out, or comes inside, and some have a mishap.
func rows() [][]api.Act {
	return [][]api.Act{
		nil, {}, acts(assign(0, "a+1")), acts(assign(0, "a")), acts(raise(5)), acts(raise(5), raise(6), raise(7)), acts(log("5")), acts(cancel(4), cancel(3), send(2, 1, "0")),
		acts(log("")), acts(assign(-1, "1")), acts(assign(0, "true"), assign(0, "1")), acts(raise(5), log("1/0"), raise(6)), acts(assign(0, "7"), send(1, 2, "a"), assign(99, "7")),
		acts(assign(0, "a*2"), log("a"), raise(8), send(1, 2, "a+1"), cancel(3), raise(9), assign(0, "a-1"), log("a")), acts(api.Act{}, api.Act{Kind: 6}),
	}
}

func envs() [][]int64 { return [][]int64{nil, {}, {4}, {5, 6, 7}, upTo(8), upTo(40)} }

// P11.2, R2: the actions and the variables that were handed in stay as they were,
// behind the lists' ends, too.

func TestWhatIsHandedInStays(t *testing.T) {
	for _, row := range rows() {
		for _, values := range envs() {
			l, env := room(row, assign(0, "99")), room(values, -88)
			wasL, wasEnv := whole(l), whole(env)
			act.Do(l, env)
			if !slices.Equal(whole(l), wasL) || !slices.Equal(whole(env), wasEnv) {
				t.Fatalf("%v, %v became %v, %v", wasL, wasEnv, whole(l), whole(env))
			}
		}
	}
}

// What is told is new memory: it may be changed, and added to, and neither what was
// handed in nor what is told another time changes.

func TestWhatIsToldIsNew(t *testing.T) {
	for _, row := range rows() {
		for _, values := range envs() {
			l, env := room(row, assign(0, "99")), room(values, -88)
			wasL, wasEnv := whole(l), whole(env)
			first, second := done(l, env), done(l, env)
			want := told{slices.Clone(first.vars), slices.Clone(first.outs), slices.Clone(first.ins)}
			spoilAll(first)
			if !slices.Equal(whole(l), wasL) || !slices.Equal(whole(env), wasEnv) {
				t.Fatalf("%v, %v became %v, %v", wasL, wasEnv, whole(l), whole(env))
			}
			if third := done(l, env); !second.equals(want) || !third.equals(want) {
				t.Fatalf("told %v, and then %v, want %v", second, third, want)
			}
		}
	}
}

// The variables are new where nothing is assigned, too: changed ones don't change
// what was told.

func TestVariablesAreNew(t *testing.T) {
	for _, row := range [][]api.Act{nil, {}, acts(raise(5)), acts(log("a"), cancel(1)), acts(log("")), acts(assign(-1, "1")), acts(assign(3, "1")), acts(api.Act{Kind: 6}), acts(assign(0, "a"))} {
		env := []int64{5, 6, 7}
		vars, _, _ := act.Do(row, env)
		if &vars[0] == &env[0] {
			t.Errorf("%v tells the variables that were handed in", row)
		}
		env[0], env[2] = 50, 70
		if !slices.Equal(vars, []int64{5, 6, 7}) {
			t.Errorf("behind %v the variables became %v", row, vars)
		}
		vars[1] = 60
		if !slices.Equal(env, []int64{50, 6, 70}) {
			t.Errorf("behind %v what was handed in became %v", row, env)
		}
	}
}

// Of actions that are changed afterwards nothing was kept.

func TestActionsAreNotKept(t *testing.T) {
	for _, row := range rows() {
		for _, env := range envs() {
			l := slices.Clone(row)
			first := done(l, env)
			want := told{slices.Clone(first.vars), slices.Clone(first.outs), slices.Clone(first.ins)}
			spoil(l, raise(-5))
			if !first.equals(want) {
				t.Fatalf("told %v became %v", want, first)
			}
			checkDo(t, slices.Clone(row), env, want)
		}
	}
}

// Nothing is kept: each call tells of its own actions and variables.

func TestNothingIsKept(t *testing.T) {
	for range 3 {
		checkDo(t, acts(assign(0, "a+1"), raise(5), log("a")), []int64{3}, left(4).out(logged(4)).in(5))
		checkDo(t, nil, nil, left())
		checkDo(t, acts(log("a")), nil, left().in(api.EventError))
		checkDo(t, acts(log("a"), log("b")), []int64{3}, left(3).out(logged(3)).in(api.EventError))
		checkDo(t, acts(cancel(9)), []int64{3}, left(3).out(cancelled(9)))
		checkDo(t, nil, []int64{3, 4}, left(3, 4))
	}
}

// Calls beside each other, with the same lists, tell what they tell alone.

func TestCallsBesideEachOther(t *testing.T) {
	l := acts(assign(0, "a*2"), log("a"), raise(8), send(1, 2, "a+1"), cancel(3), raise(9), assign(0, "a-1"), log("a"))
	env := []int64{5, 6, 7}
	want := left(9, 6, 7).out(logged(10), sent(1, 2, 11), cancelled(3), logged(9)).in(8, 9)
	answers := make(chan bool)
	for range 4 {
		go func() {
			ok := true
			for range 200 {
				ok = ok && done(l, env).equals(want)
			}
			answers <- ok
		}()
	}
	for range 4 {
		if !<-answers {
			t.Error("told something else")
		}
	}
}
