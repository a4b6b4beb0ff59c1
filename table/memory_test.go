package table_test

import (
	"reflect"
	"slices"
	"testing"

	"spinet/api"
	"spinet/table"
)

// list is one of a chart's lists, or another one that is told.
type list interface {
	// spoil changes all that it has, and what has room behind its end.
	spoil()
	// whole is a copy of all that it has, and of what has room behind its end.
	whole() any
}

type listOf[T any] []T

func (l listOf[T]) spoil()     { clear(l[:cap(l)]) }
func (l listOf[T]) whole() any { return slices.Concat(l[:cap(l)]) }

// listsOf are all of a chart, the inner ones first: so they are still there to
// be spoilt.
func listsOf(c api.Chart) []list {
	var l []list
	for _, one := range c.States {
		l = append(l, listOf[int](one.Initial), listOf[api.Act](one.Entry), listOf[api.Act](one.Exit))
	}
	for _, one := range c.Trans {
		l = append(l, listOf[int](one.Targets), listOf[api.Act](one.Acts))
	}
	return append(l, listOf[api.State](c.States), listOf[api.Trans](c.Trans))
}

func wholes(l []list) []any {
	var all []any
	for _, one := range l {
		all = append(all, one.whole())
	}
	return all
}

func spoil(l []list) {
	for _, one := range l {
		one.spoil()
	}
}

// roomy is a chart of which each list, also one of no elements, has room behind
// its end, with something there.
func roomy() api.Chart {
	c := laden()
	for s := range c.States {
		one := &c.States[s]
		one.Initial, one.Entry, one.Exit = room(one.Initial, 77), room(one.Entry, api.Act{Kind: 88}), room(one.Exit, api.Act{Kind: 99})
	}
	for i := range c.Trans {
		one := &c.Trans[i]
		one.Targets, one.Acts = room(one.Targets, 66), room(one.Acts, api.Act{Kind: 55})
	}
	c.States, c.Trans = room(c.States, api.State{Kind: 44}), room(c.Trans, api.Trans{Source: 33})
	return c
}

func room[T any](l []T, behind T) []T { return slices.Concat(l, []T{behind, behind})[:len(l)] }

// askAll makes every call that a table has.
func askAll(one *table.Table) {
	for i := -1; i < 45; i++ {
		one.Up(i)
		one.Below(i)
		one.Kids(i)
		one.Default(i)
		one.From(i)
		one.Guard(i, []int64{1, 0, 2})
	}
	one.Chart()
}

// checkLaden asks a table for all that it tells of laden.
func checkLaden(t *testing.T, one *table.Table) {
	t.Helper()
	checkChart(t, one, laden())
	checkRows(t, one, richRows())
	for s := range richRows() {
		checkFrom(t, one, s, map[int][]int{1: {0}, 2: {1, 4}, 11: {2}, 17: {3}}[s]...)
	}
	checkGuard(t, one, 0, []int64{2}, true, false)
	checkGuard(t, one, 0, []int64{3}, false, false)
	checkGuard(t, one, 1, nil, true, false)
	checkGuard(t, one, 2, []int64{0, 0, 2}, true, false)
	checkGuard(t, one, 2, []int64{0, 0}, false, true)
	checkGuard(t, one, 3, nil, true, false)
	checkGuard(t, one, 4, []int64{5, 5}, true, false)
	checkGuard(t, one, 4, []int64{5, 0}, false, true)
	checkGuard(t, one, 5, nil, false, false)
}

// P14.3, R2: the chart that is handed in stays as it was, behind its lists' ends,
// too, whatever is asked, with and without an error.

func TestChartHandedInStays(t *testing.T) {
	c := roomy()
	lists := listsOf(c)
	was := wholes(lists)
	one := made(t, c)
	askAll(one)
	spoil(listsOf(one.Chart()))
	if !reflect.DeepEqual(wholes(lists), was) {
		t.Fatalf("%v became %v", was, wholes(lists))
	}
	c.Trans[3].Source = 0
	was = wholes(lists)
	checkNoTable(t, c, &api.Spot{At: 26, Err: api.ErrKind})
	if !reflect.DeepEqual(wholes(lists), was) {
		t.Fatalf("%v became %v", was, wholes(lists))
	}
}

// It isn't kept: each of its lists may be changed afterwards, and no answer is
// another one.

func TestChartHandedInIsNotKept(t *testing.T) {
	for i := range listsOf(roomy()) {
		c := roomy()
		one := made(t, c)
		listsOf(c)[i].spoil()
		checkLaden(t, one)
	}
	c := roomy()
	one := made(t, c)
	c.Vars = 8
	spoil(listsOf(c))
	checkLaden(t, one)
}

// The chart that is told may be changed, and no answer is another one: neither of
// this table, nor of another one of the same chart.

func TestChartToldMayBeChanged(t *testing.T) {
	handed := roomy()
	one, other := made(t, handed), made(t, handed)
	for i := range listsOf(one.Chart()) {
		told := one.Chart()
		listsOf(told)[i].spoil()
		checkLaden(t, one)
	}
	told := one.Chart()
	_ = append(told.States, api.State{Kind: 9})
	_ = append(told.Trans, api.Trans{Source: 9})
	for _, l := range listsOf(told) {
		l.spoil()
	}
	checkLaden(t, one)
	checkLaden(t, other)
	checkLaden(t, made(t, handed))
}

// No two lists of what is told share memory: where one is changed, all others
// are what they were.

func TestListsOfChartAreApart(t *testing.T) {
	one := made(t, roomy())
	for i := range listsOf(one.Chart()) {
		first, second := listsOf(one.Chart()), listsOf(one.Chart())
		was, wasSecond := wholes(first), wholes(second)
		first[i].spoil()
		now := wholes(first)
		was[i], now[i] = nil, nil
		if !reflect.DeepEqual(now, was) || !reflect.DeepEqual(wholes(second), wasSecond) {
			t.Fatalf("list %d shares memory", i)
		}
	}
}

// The row that From tells may be changed, and added to: of no state is another
// one told then.

func TestRowsToldMayBeChanged(t *testing.T) {
	one := made(t, drawn(rich, from(1), from(2), from(1), from(11), from(17), from(1), from(2), from(16), from(21)))
	want := map[int][]int{1: {0, 2, 5}, 2: {1, 6}, 11: {3}, 16: {7}, 17: {4}, 21: {8}}
	for a := -1; a < 24; a++ {
		for b := -1; b < 24; b++ {
			spoilt, held := one.From(a), one.From(b)
			listOf[int](append(spoilt, -7, -8)).spoil()
			listOf[int](append(spoilt[:len(spoilt):len(spoilt)], -7)).spoil()
			listOf[int](spoilt).spoil()
			if !slices.Equal(held, want[b]) {
				t.Fatalf("From(%d) became %v, was %v", b, held, want[b])
			}
			checkFrom(t, one, b, want[b]...)
		}
	}
}

// What is added to a row behind its end is no other's.

func TestRowsGrowApart(t *testing.T) {
	one := made(t, drawn(rich, from(1), from(1), from(1), from(2)))
	first, second := append(one.From(1), 77), append(one.From(1), 88)
	if !slices.Equal(first, []int{0, 1, 2, 77}) || !slices.Equal(second, []int{0, 1, 2, 88}) {
		t.Errorf("rows that were added to: %v and %v", first, second)
	}
	checkFrom(t, one, 1, 0, 1, 2)
	checkFrom(t, one, 2, 3)
}

// The variables stay as they were, behind their end, too, and aren't kept.

func TestVariablesStay(t *testing.T) {
	one := made(t, drawn(smallest, when(1, "6/a<b"), from(1), when(1, "1/0==c"), when(1, "-a*b+c%a!=7")))
	for _, values := range [][]int64{{}, {3}, {3, 3}, {3, 2, 1}, {0, 1, 2}, {9, 8, 7, 6, 5, 4, 3, 2, 1}} {
		env := room(values, -77)
		was := slices.Clone(env[:cap(env)])
		for i := -1; i < 5; i++ {
			one.Guard(i, env)
		}
		if !slices.Equal(env[:cap(env)], was) {
			t.Errorf("variables became %v, were %v", env[:cap(env)], was)
		}
	}
	env := []int64{3, 3}
	checkGuard(t, one, 0, env, true, false)
	env[0] = 0
	checkGuard(t, one, 0, env, false, true)
	env[0], env[1] = 3, 2
	checkGuard(t, one, 0, env, false, false)
	checkGuard(t, one, 0, nil, false, true)
}

// Nothing is kept from one chart to the other.

func TestTablesApart(t *testing.T) {
	one, other := made(t, laden()), made(t, drawn("C2(A C4(A A))", when(3, "a==1"), when(2, "a==2")))
	for range 3 {
		checkLaden(t, one)
		checkRows(t, other, []row{
			{nil, upTo(1, 4), []int{1, 2}, []int{0, 2, 4}}, {[]int{0}, nil, nil, []int{1}},
			{[]int{0}, []int{3, 4}, []int{3, 4}, []int{2, 4}}, {[]int{0, 2}, nil, nil, []int{3}}, {[]int{0, 2}, nil, nil, []int{4}},
		})
		checkFrom(t, other, 3, 0)
		checkFrom(t, other, 2, 1)
		checkGuard(t, other, 0, []int64{1}, true, false)
		checkGuard(t, other, 1, []int64{1}, false, false)
	}
}

// Asking changes nothing of a table.

func TestATableStays(t *testing.T) {
	one, other := made(t, laden()), made(t, laden())
	for range 3 {
		askAll(one)
	}
	if !reflect.DeepEqual(one, other) {
		t.Errorf("the table became %v, was %v", one, other)
	}
}

// Calls beside each other, with one table, tell what they tell alone.

func TestCallsBesideEachOther(t *testing.T) {
	one := made(t, laden())
	answers := make(chan bool)
	for range 4 {
		go func() { answers <- asksWell(one) }()
	}
	for range 4 {
		if !<-answers {
			t.Error("told something else")
		}
	}
}

func asksWell(one *table.Table) bool {
	ok := true
	for range 100 {
		holds, mishap := one.Guard(0, []int64{2})
		_, missed := one.Guard(4, []int64{5, 0})
		ok = ok && holds && !mishap && missed && slices.Equal(one.From(2), []int{1, 4}) &&
			one.Default(11) == set(11, 12, 13, 21) && one.Up(17) == set(0, 11, 12, 14, 16) && one.Kids(0) == set(1, 2, 11, 22) &&
			one.Below(14) == set(15, 16, 17, 18) && reflect.DeepEqual(plain(one.Chart()), plain(laden()))
	}
	return ok
}
