package tree_test

import (
	"reflect"
	"slices"
	"testing"

	"spinet/api"
	"spinet/chart"
	"spinet/tree"
)

// list is one of a chart's lists, or another one that is told.
type list interface {
	// spoil changes all that it has, and what has room behind its end.
	spoil()
	// whole is a copy of all that it has, and of what has room behind its end.
	whole() any
}

type listOf[T any] []T

func (l listOf[T]) spoil()     { clear(l[:cap(l)]) }
func (l listOf[T]) whole() any { return slices.Concat(l[:cap(l)]) }

// listsOf are all of a chart, the inner ones first: so they are still there to
// be spoilt.
func listsOf(c api.Chart) []list {
	var l []list
	for _, one := range c.States {
		l = append(l, listOf[int](one.Initial), listOf[api.Act](one.Entry), listOf[api.Act](one.Exit))
	}
	for _, one := range c.Trans {
		l = append(l, listOf[int](one.Targets), listOf[api.Act](one.Acts))
	}
	return append(l, listOf[api.State](c.States), listOf[api.Trans](c.Trans))
}

func wholes(l []list) []any {
	var all []any
	for _, one := range l {
		all = append(all, one.whole())
	}
	return all
}

func spoil(l []list) {
	for _, one := range l {
		one.spoil()
	}
}

// roomy is a chart of which each list, also one of no elements, has room behind
// its end, with something there.
func roomy() api.Chart {
	c := laden()
	for s := range c.States {
		one := &c.States[s]
		one.Initial, one.Entry, one.Exit = room(one.Initial, 77), room(one.Entry, api.Act{Kind: 88}), room(one.Exit, api.Act{Kind: 99})
	}
	for i := range c.Trans {
		one := &c.Trans[i]
		one.Targets, one.Acts = room(one.Targets, 66), room(one.Acts, api.Act{Kind: 55})
	}
	c.States, c.Trans = room(c.States, api.State{Kind: 44}), room(c.Trans, api.Trans{Source: 33})
	return c
}

func room[T any](l []T, behind T) []T { return slices.Concat(l, []T{behind, behind})[:len(l)] }

// askAll makes every call that a tree has, for each state.
func askAll(one *tree.Tree, n int) {
	for a := range n {
		one.Kind(a)
		one.Up(a)
		one.Below(a)
		one.Kids(a)
		for b := range n {
			one.In(a, b)
			one.Join([]int{a, b})
		}
	}
	one.Chart()
	one.Leaves(1<<32 - 1)
}

// P7.3, R2: the chart that is handed in stays as it was, behind its lists' ends,
// too, whatever is asked, with and without an error.

func TestChartHandedInStays(t *testing.T) {
	c := roomy()
	lists := listsOf(c)
	was := wholes(lists)
	one := planted(t, c)
	askAll(one, len(c.States))
	spoil(listsOf(one.Chart()))
	if !reflect.DeepEqual(wholes(lists), was) {
		t.Fatalf("%v became %v", was, wholes(lists))
	}
	c.Trans[3].Source = 0
	was = wholes(lists)
	checkNoTree(t, c, &api.Spot{At: 26, Err: api.ErrKind})
	if !reflect.DeepEqual(wholes(lists), was) {
		t.Fatalf("%v became %v", was, wholes(lists))
	}
}

// It isn't kept: each of its lists may be changed afterwards, and no answer is
// another one.

func TestChartHandedInIsNotKept(t *testing.T) {
	r := read(laden())
	for i := range listsOf(roomy()) {
		c := roomy()
		one := planted(t, c)
		listsOf(c)[i].spoil()
		checkChart(t, one, r.Chart)
		checkByReading(t, one, r)
		checkLeavesByReading(t, one, r, 1<<32-1)
	}
	c := roomy()
	one := planted(t, c)
	c.Vars = 8
	spoil(listsOf(c))
	checkChart(t, one, r.Chart)
	checkByReading(t, one, r)
}

// The chart that is told may be changed, and no answer is another one: neither
// of this tree, nor of another one of the same chart.

func TestChartToldMayBeChanged(t *testing.T) {
	r := read(laden())
	handed := roomy()
	one, other := planted(t, handed), planted(t, handed)
	for i := range listsOf(one.Chart()) {
		told := one.Chart()
		listsOf(told)[i].spoil()
		checkChart(t, one, r.Chart)
		checkChart(t, other, r.Chart)
		checkByReading(t, one, r)
		checkByReading(t, other, r)
	}
	checkChart(t, planted(t, handed), r.Chart)
	told := one.Chart()
	_ = append(told.States, api.State{Kind: 9})
	_ = append(told.Trans, api.Trans{Source: 9})
	checkChart(t, one, r.Chart)
}

// No two lists of what is told share memory: where one is changed, all others
// are what they were.

func TestListsOfChartAreApart(t *testing.T) {
	one := planted(t, roomy())
	for i := range listsOf(one.Chart()) {
		first, second := listsOf(one.Chart()), listsOf(one.Chart())
		was, wasSecond := wholes(first), wholes(second)
		first[i].spoil()
		now := wholes(first)
		was[i], now[i] = nil, nil
		if !reflect.DeepEqual(now, was) || !reflect.DeepEqual(wholes(second), wasSecond) {
			t.Fatalf("list %d shares memory", i)
		}
	}
}

// The rows that Up and Leaves tell may be changed, and added to.

func TestRowsToldMayBeChanged(t *testing.T) {
	r := read(drawn(rich))
	one := planted(t, r.Chart)
	for a := range r.States {
		for b := range r.States {
			checkRowsApart(t, func() []int { return one.Up(a) }, func() []int { return one.Up(b) }, r.up(b))
			of := one.Below(b) | set(a)
			checkRowsApart(t, func() []int { return one.Leaves(of) }, func() []int { return one.Leaves(of) }, r.leaves(of))
			checkRowsApart(t, func() []int { return one.Up(a) }, func() []int { return one.Leaves(of) }, r.leaves(of))
		}
	}
	checkByReading(t, one, r)
	checkChart(t, one, r.Chart)
}

// checkRowsApart asks for the second row ahead of changing the first one, and
// behind it.
func checkRowsApart(t *testing.T, first, second func() []int, want []int) {
	t.Helper()
	spoilt, held := first(), second()
	listOf[int](append(spoilt, -7)).spoil()
	listOf[int](spoilt).spoil()
	if !slices.Equal(held, want) {
		t.Fatalf("a row became %v, was %v", held, want)
	}
	if got := second(); !slices.Equal(got, want) {
		t.Fatalf("a row is %v now, was %v", got, want)
	}
}

// Join leaves its row as it was, behind its end, too, and keeps nothing of it.

func TestJoinLeavesItsRow(t *testing.T) {
	one := planted(t, drawn(rich))
	for _, l := range [][]int{{}, {6}, {18, 17, 18, 15}, {22, 1, 6}, {0, 6}, {6, -1}, {99, 3}, {17, 4, 0, 23, -5, 17}} {
		handed := room(l, 55)
		was := listOf[int](handed).whole()
		want := one.Join(handed)
		if now := listOf[int](handed).whole(); !reflect.DeepEqual(now, was) {
			t.Errorf("Join made %v of %v", now, was)
		}
		listOf[int](handed).spoil()
		checkJoin(t, one, want, l...)
	}
}

// Trees keep nothing for each other: each tells of its own chart.

func TestTreesAreApart(t *testing.T) {
	var trees []*tree.Tree
	var readings []reading
	for _, s := range []string{rich, smallest, chain(), flat(), mixed(), "C(P(A S) F)"} {
		readings = append(readings, read(drawn(s)))
		trees = append(trees, planted(t, drawn(s)))
	}
	for range 2 {
		for i, one := range trees {
			checkByReading(t, one, readings[i])
			checkChart(t, one, readings[i].Chart)
			checkLeavesByReading(t, one, readings[i], 1<<32-1)
			checkNoTree(t, api.Chart{}, api.ErrLarge)
		}
	}
}

// An error that was told may be changed, too.

func TestErrorToldMayBeChanged(t *testing.T) {
	c := laden()
	c.Trans[2].Guard = "c"
	for range 2 {
		_, err := tree.New(c)
		if spot, ok := err.(*api.Spot); ok {
			*spot = api.Spot{At: 77, Err: 78}
		}
		checkNoTree(t, c, chart.Check(c))
		checkNoTree(t, c, &api.Spot{At: 25, Err: api.ErrType})
	}
}
