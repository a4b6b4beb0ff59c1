package table_test

import (
	"reflect"
	"testing"

	"spinet/api"
	"spinet/table"
)

// P14.1, P1: of no such state: none.

func TestNoSuchState(t *testing.T) {
	for _, c := range []api.Chart{drawn(smallest), laden(), drawn(chain()), drawn(mixed()), drawn(stairs()), drawn(flat()), greatest()} {
		one := made(t, c)
		for _, s := range nowhere(len(c.States)) {
			checkNothing(t, one, s)
		}
		for i := range c.Trans {
			checkNothing(t, one, len(c.States)+i)
		}
	}
}

// checkNothing asks for a state that isn't there.
func checkNothing(t *testing.T, one *table.Table, s int) {
	t.Helper()
	for what, got := range map[string]uint32{"Up": one.Up(s), "Below": one.Below(s), "Kids": one.Kids(s), "Default": one.Default(s)} {
		if got != 0 {
			t.Errorf("%s(%d) = %v, want none", what, s, members(got))
		}
	}
	checkFrom(t, one, s)
}

// P14.2, P1: of no such transition: false, false; even if one would be a mishap.

func TestNoSuchTransition(t *testing.T) {
	for _, c := range []api.Chart{
		drawn(smallest), drawn(smallest, from(1)), drawn(smallest, when(1, "1/0==1")), drawn(smallest, from(1), when(1, "true")), laden(), greatest(),
	} {
		one := made(t, c)
		for _, i := range nowhere(len(c.Trans)) {
			for _, env := range [][]int64{nil, {}, {1, 2, 3}, make([]int64, 8)} {
				checkGuard(t, one, i, env, false, false)
			}
		}
	}
}

// What isn't there changes nothing for what is.

func TestStatesStayAmongWrongNumbers(t *testing.T) {
	one := made(t, laden())
	for _, i := range nowhere(0) {
		one.Up(i)
		one.Below(i)
		one.Kids(i)
		one.Default(i)
		one.From(i)
		one.Guard(i, nil)
	}
	checkRows(t, one, richRows())
	checkChart(t, one, laden())
	checkFrom(t, one, 2, 1, 4)
	checkGuard(t, one, 0, []int64{2, 0, 0}, true, false)
}

// A nil table has no states and no transitions.

func TestNilTable(t *testing.T) {
	var none *table.Table
	if got := none.Chart(); !reflect.DeepEqual(plain(got), api.Chart{}) {
		t.Errorf("Chart() of nil = %v", got)
	}
	for s := -1; s < 41; s++ {
		checkNothing(t, none, s)
		checkGuard(t, none, s, []int64{1, 2, 3}, false, false)
	}
	for _, s := range nowhere(0) {
		checkNothing(t, none, s)
		checkGuard(t, none, s, nil, false, false)
	}
}

// No more is there with an error.

func TestNoTableBesideAnError(t *testing.T) {
	one, err := table.New(api.Chart{Vars: 3})
	if one != nil || err == nil {
		t.Fatalf("New = %v, %v", one, err)
	}
	checkNothing(t, one, 0)
	checkGuard(t, one, 0, nil, false, false)
}
