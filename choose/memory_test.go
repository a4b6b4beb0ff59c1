package choose_test

import (
	"reflect"
	"slices"
	"testing"

	"spinet/api"
	"spinet/choose"
	"spinet/tree"
)

// room is a list that has room behind its end, with something there.
func room[T any](l []T, behind T) []T { return slices.Concat(l, []T{behind, behind})[:len(l)] }

// whole is a copy of a list, and of what has room behind its end.
func whole[T any](l []T) []T { return slices.Clone(l[:cap(l)]) }

// guarded are the transitions of regions, each with a Guard that hangs on the
// variables.
func guarded() []api.Trans {
	all := regions()
	for i := range all {
		all[i].Guard = []string{"a<b", "b/a<9", "not c==b", ""}[i%4]
	}
	return all
}

var envs = [][]int64{{}, {1}, {1, 2}, {2, 1, 1}, {0, 5, 5, -9}, {7, 7, 7, 7, 7, 7, 7, 7, 7}}

var lists = [][]int{{}, {0}, {15, 1, 0}, {15, 1, 8}, {9, 0, 1, 12, 0}, {-1, 3, 99, 12, 12, 14, 3}, {15, 14, 13, 12, 11, 10, 9, 8, 7, 6, 5, 4, 3, 2, 1, 0}}

// P10.2, R2: the variables, the list and the tree stay as they were, behind the
// lists' ends, too.

func TestWhatIsHandedInStays(t *testing.T) {
	one, other := planted(t, drawn(nest, guarded()...)), planted(t, drawn(nest, guarded()...))
	was := one.Chart()
	for _, values := range envs {
		env := room(values, -77)
		wasEnv := whole(env)
		for i := -1; i <= len(was.Trans); i++ {
			choose.Ready(one, env, i, 7)
		}
		for _, of := range []uint32{0, set(5), inner, full} {
			choose.Gather(one, of, env, 7)
		}
		if !slices.Equal(whole(env), wasEnv) {
			t.Fatalf("variables became %v, were %v", whole(env), wasEnv)
		}
	}
	for _, row := range lists {
		for _, of := range []uint32{0, set(5), inner, full} {
			l := room(row, 3)
			wasRow := whole(l)
			choose.Sift(one, of, l)
			if !slices.Equal(whole(l), wasRow) {
				t.Fatalf("%v became %v", wasRow, whole(l))
			}
		}
	}
	if !reflect.DeepEqual(one.Chart(), was) || !reflect.DeepEqual(one, other) {
		t.Errorf("the tree's chart became %v, was %v", one.Chart(), was)
	}
}

// spoil changes all that a row has, and what has room behind its end.
func spoil(l []int) {
	l = l[:cap(l)]
	for i := range l {
		l[i] = -5
	}
}

// What is told is new memory: it may be changed, and added to, and neither the
// list, nor the tree, nor what is told another time changes.

func TestWhatIsToldIsNew(t *testing.T) {
	one := planted(t, drawn(nest, guarded()...))
	was := one.Chart()
	for _, of := range []uint32{0, set(5), inner, full} {
		for _, env := range envs {
			checkNew(t, func() []int {
				l, _ := choose.Gather(one, of, env, 7)
				return l
			})
		}
		for _, row := range lists {
			l := room(row, 3)
			wasRow := whole(l)
			checkNew(t, func() []int { return choose.Sift(one, of, l) })
			if !slices.Equal(whole(l), wasRow) {
				t.Fatalf("%v became %v", wasRow, whole(l))
			}
		}
	}
	if !reflect.DeepEqual(one.Chart(), was) {
		t.Errorf("the tree's chart became %v, was %v", one.Chart(), was)
	}
}

func checkNew(t *testing.T, tell func() []int) {
	t.Helper()
	first, second := tell(), tell()
	want := slices.Clone(first)
	spoil(append(first, -7))
	spoil(first)
	if third := tell(); !slices.Equal(second, want) || !slices.Equal(third, want) {
		t.Fatalf("told %v, and then %v, want %v", second, third, want)
	}
}

// Of a list of which all are kept another one is told, too.

func TestAllKeptAreNew(t *testing.T) {
	one := planted(t, drawn(nest, regions()...))
	l := []int{0, 1, 3, 12}
	kept := choose.Sift(one, inner, l)
	spoil(kept)
	if !slices.Equal(l, []int{0, 1, 3, 12}) {
		t.Errorf("the list became %v", l)
	}
	kept = choose.Sift(one, inner, l)
	spoil(l)
	if !slices.Equal(kept, []int{0, 1, 3, 12}) {
		t.Errorf("what was kept became %v", kept)
	}
}

// Nor is the chart changed that the tree was made of; and as that may be changed,
// nothing of it is kept.

func TestTheChartStays(t *testing.T) {
	handed, was := drawn(nest, guarded()...), drawn(nest, guarded()...)
	one := planted(t, handed)
	ask := func() {
		t.Helper()
		checkReady(t, one, []int64{1, 2}, 0, 7, true, false)
		checkGatherFor(t, one, inner, []int64{1, 2}, 7, 1, 0, 1, 9, 3)
		checkSift(t, one, inner, []int{15, 1, 0}, 1, 0)
	}
	ask()
	if !reflect.DeepEqual(handed, was) {
		t.Errorf("the chart became %v, was %v", handed, was)
	}
	for i := range handed.Trans {
		handed.Trans[i] = of(8, when(1, broken))
	}
	ask()
}

// Nothing is kept: each call tells of its own tree, set, variables and event.

func TestNothingIsKept(t *testing.T) {
	one, other := planted(t, drawn(nest, regions()...)), planted(t, drawn(flat(), when(5, "a<b"), from(6), of(8, from(5))))
	for range 3 {
		checkReady(t, one, nil, 0, 7, true, false)
		checkReady(t, other, nil, 0, 7, false, true)
		checkReady(t, other, []int64{1, 2}, 0, 7, true, false)
		checkReady(t, nil, []int64{1, 2}, 0, 7, false, false)
		checkReady(t, other, []int64{2, 1}, 0, 7, false, false)
		checkGather(t, one, set(5, 17), 0, 0, 3)
		checkGather(t, other, set(5, 6, 17), 1, 1)
		checkGather(t, nil, set(5, 6), 0)
		checkGather(t, one, set(5), 0, 0)
		checkGatherFor(t, other, set(5), nil, 8, 0, 2)
		checkSift(t, one, inner, []int{15, 0}, 0)
		checkSift(t, other, inner, []int{1, 0}, 1, 0)
		checkSift(t, one, 0, []int{15, 0}, 15, 0)
	}
}

// Calls beside each other, with one tree, tell what they tell alone.

func TestCallsBesideEachOther(t *testing.T) {
	one := planted(t, drawn(nest, guarded()...))
	env, l := []int64{1, 2}, []int{15, 1, 0}
	done := make(chan bool)
	for range 4 {
		go func() { done <- asksWell(one, env, l) }()
	}
	for range 4 {
		if !<-done {
			t.Error("told something else")
		}
	}
}

func asksWell(one *tree.Tree, env []int64, l []int) bool {
	for range 50 {
		ready, mishap := choose.Ready(one, env, 0, 7)
		gathered, mishaps := choose.Gather(one, inner, env, 7)
		kept := choose.Sift(one, inner, l)
		if !ready || mishap || mishaps != 1 || !slices.Equal(gathered, []int{0, 1, 9, 3}) || !slices.Equal(kept, []int{1, 0}) {
			return false
		}
	}
	return true
}
