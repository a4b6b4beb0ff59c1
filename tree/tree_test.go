package tree_test

import (
	"reflect"
	"slices"
	"strings"
	"testing"

	"spinet/api"
	"spinet/chart"
	"spinet/tree"
)

// row is what a tree tells of a state.
type row struct {
	kind            int
	up, below, kids []int
}

// checkRows asks a tree for just these states, and In for each pair of them.
func checkRows(t *testing.T, s string, rows []row) {
	t.Helper()
	one := planted(t, drawn(s))
	for a, want := range rows {
		if got := one.Kind(a); got != want.kind {
			t.Errorf("%s: Kind(%d) = %d, want %d", s, a, got, want.kind)
		}
		if got := one.Up(a); !slices.Equal(got, want.up) {
			t.Errorf("%s: Up(%d) = %v, want %v", s, a, got, want.up)
		}
		if got := one.Below(a); got != set(want.below...) {
			t.Errorf("%s: Below(%d) = %b, want %v", s, a, got, want.below)
		}
		if got := one.Kids(a); got != set(want.kids...) {
			t.Errorf("%s: Kids(%d) = %b, want %v", s, a, got, want.kids)
		}
		for b := range rows {
			if got := one.In(a, b); got != slices.Contains(want.up, b) {
				t.Errorf("%s: In(%d, %d) = %v, up %v", s, a, b, got, want.up)
			}
		}
	}
	if got := one.Kind(len(rows)); got != 0 {
		t.Errorf("%s: Kind(%d) = %d, want 0: it isn't there", s, len(rows), got)
	}
}

// P7.1, P7.2: ordinary charts, of each Kind of state, with all that is told of
// each state and each pair of them.

func TestOrdinaryCharts(t *testing.T) {
	checkRows(t, smallest, []row{
		{api.Compound, nil, []int{1}, []int{1}},
		{api.Atomic, []int{0}, nil, nil},
	})
	checkRows(t, "C(C(A) P(A C(F)) F)", []row{
		{api.Compound, nil, []int{1, 2, 3, 4, 5, 6, 7}, []int{1, 3, 7}},
		{api.Compound, []int{0}, []int{2}, []int{2}},
		{api.Atomic, []int{1, 0}, nil, nil},
		{api.Parallel, []int{0}, []int{4, 5, 6}, []int{4, 5}},
		{api.Atomic, []int{3, 0}, nil, nil},
		{api.Compound, []int{3, 0}, []int{6}, []int{6}},
		{api.Final, []int{5, 3, 0}, nil, nil},
		{api.Final, []int{0}, nil, nil},
	})
	checkRows(t, "C(P(P(A A) P(A)))", []row{
		{api.Compound, nil, []int{1, 2, 3, 4, 5, 6}, []int{1}},
		{api.Parallel, []int{0}, []int{2, 3, 4, 5, 6}, []int{2, 5}},
		{api.Parallel, []int{1, 0}, []int{3, 4}, []int{3, 4}},
		{api.Atomic, []int{2, 1, 0}, nil, nil},
		{api.Atomic, []int{2, 1, 0}, nil, nil},
		{api.Parallel, []int{1, 0}, []int{6}, []int{6}},
		{api.Atomic, []int{5, 1, 0}, nil, nil},
	})
}

// Histories have an Up, and are in what their Parent is in, but are in no Below
// and in no Kids; and nothing is in them.

func TestHistories(t *testing.T) {
	checkRows(t, "C(C(S A D) P(D A S))", []row{
		{api.Compound, nil, []int{1, 3, 5, 7}, []int{1, 5}},
		{api.Compound, []int{0}, []int{3}, []int{3}},
		{api.Shallow, []int{1, 0}, nil, nil},
		{api.Atomic, []int{1, 0}, nil, nil},
		{api.Deep, []int{1, 0}, nil, nil},
		{api.Parallel, []int{0}, []int{7}, []int{7}},
		{api.Deep, []int{5, 0}, nil, nil},
		{api.Atomic, []int{5, 0}, nil, nil},
		{api.Shallow, []int{5, 0}, nil, nil},
	})
}

func TestRichChart(t *testing.T) {
	checkRows(t, rich, []row{
		{api.Compound, nil, []int{1, 2, 4, 5, 6, 7, 9, 11, 12, 13, 14, 15, 16, 17, 18, 21, 22}, []int{1, 2, 11, 22}},
		{api.Atomic, []int{0}, nil, nil},
		{api.Compound, []int{0}, []int{4, 5, 6, 7, 9}, []int{4, 5, 9}},
		{api.Shallow, []int{2, 0}, nil, nil},
		{api.Atomic, []int{2, 0}, nil, nil},
		{api.Compound, []int{2, 0}, []int{6, 7}, []int{6, 7}},
		{api.Atomic, []int{5, 2, 0}, nil, nil},
		{api.Final, []int{5, 2, 0}, nil, nil},
		{api.Deep, []int{5, 2, 0}, nil, nil},
		{api.Final, []int{2, 0}, nil, nil},
		{api.Deep, []int{2, 0}, nil, nil},
		{api.Parallel, []int{0}, []int{12, 13, 14, 15, 16, 17, 18, 21}, []int{12, 21}},
		{api.Compound, []int{11, 0}, []int{13, 14, 15, 16, 17, 18}, []int{13, 14}},
		{api.Atomic, []int{12, 11, 0}, nil, nil},
		{api.Parallel, []int{12, 11, 0}, []int{15, 16, 17, 18}, []int{15, 16}},
		{api.Atomic, []int{14, 12, 11, 0}, nil, nil},
		{api.Compound, []int{14, 12, 11, 0}, []int{17, 18}, []int{17, 18}},
		{api.Atomic, []int{16, 14, 12, 11, 0}, nil, nil},
		{api.Final, []int{16, 14, 12, 11, 0}, nil, nil},
		{api.Shallow, []int{14, 12, 11, 0}, nil, nil},
		{api.Deep, []int{11, 0}, nil, nil},
		{api.Atomic, []int{11, 0}, nil, nil},
		{api.Final, []int{0}, nil, nil},
	})
}

// The edges: 24 states, each in the one ahead of it, and a first state with 23
// children.

func TestChains(t *testing.T) {
	var rows []row
	for s := range 24 {
		one := row{kind: api.Compound}
		for p := s - 1; p >= 0; p-- {
			one.up = append(one.up, p)
		}
		for k := s + 1; k < 24; k++ {
			one.below = append(one.below, k)
		}
		one.kids = one.below[:min(1, len(one.below))]
		rows = append(rows, one)
	}
	rows[23].kind = api.Atomic
	checkRows(t, chain(), rows)
	for s := 1; s < 22; s += 2 {
		rows[s].kind = api.Parallel
	}
	checkRows(t, mixed(), rows)
}

func TestFirstStateWithMostChildren(t *testing.T) {
	first := row{kind: api.Compound}
	rows := []row{first}
	for s := 1; s < 24; s++ {
		first.below = append(first.below, s)
		rows = append(rows, row{kind: api.Atomic, up: []int{0}})
	}
	first.kids = first.below
	rows[0], rows[23].kind = first, api.Final
	checkRows(t, flat(), rows)
}

// P7.1: the chart, with all that it has.

// laden is a chart with something at each place.
func laden() api.Chart {
	c := drawn(rich)
	c.Vars = 3
	for s := range c.States {
		if !isHistory(c.States[s].Kind) {
			c.States[s].Entry = []api.Act{{Kind: api.Raise, N: 1 + s}, {Kind: api.Assign, N: s % 3, Expr: "a+1"}}
			c.States[s].Exit = []api.Act{{Kind: api.Cancel, N: 100 + s}}
		}
	}
	c.Trans = []api.Trans{
		{Source: 1, Event: 7, Guard: "a<3", Targets: []int{13, 21}, Acts: []api.Act{{Kind: api.Log, Expr: "b*2"}}},
		{Source: 2, Event: api.EventDone + 5, Targets: []int{4}, Internal: true},
		{Source: 11, Event: 0, Guard: "c==2", Acts: []api.Act{{Kind: api.Send, N: 1000, M: 999, Expr: "c"}, {Kind: api.Raise, N: 5}}},
		{Source: 17, Event: api.EventError, Targets: []int{10}},
	}
	return c
}

// plain is a chart with nil for each list of no elements: both may be told.
func plain(c api.Chart) api.Chart {
	c.States, c.Trans = slices.Concat(c.States), slices.Concat(c.Trans)
	for s, one := range c.States {
		c.States[s].Initial, c.States[s].Entry, c.States[s].Exit = slices.Concat(one.Initial), slices.Concat(one.Entry), slices.Concat(one.Exit)
	}
	for i, one := range c.Trans {
		c.Trans[i].Targets, c.Trans[i].Acts = slices.Concat(one.Targets), slices.Concat(one.Acts)
	}
	return c
}

func checkChart(t *testing.T, one *tree.Tree, want api.Chart) {
	t.Helper()
	if got := one.Chart(); !reflect.DeepEqual(plain(got), plain(want)) {
		t.Errorf("Chart() = %v, want %v", got, want)
	}
}

func TestChartIsTheChart(t *testing.T) {
	empty := drawn(smallest)
	empty.Trans = []api.Trans{}
	empty.States[1] = api.State{Kind: api.Final, Initial: []int{}, Entry: []api.Act{}, Exit: []api.Act{}}
	for _, c := range []api.Chart{laden(), empty, drawn(smallest), drawn(rich), drawn(chain()), drawn(mixed()), drawn(flat())} {
		one := planted(t, c)
		for range 3 {
			checkChart(t, one, c)
		}
		if err := chart.Check(one.Chart()); err != nil {
			t.Errorf("Check(%v): %v", one.Chart(), err)
		}
	}
}

// P7.1: of a chart that may not be chart.Check's error, and no tree.

// checkNoTree asks for that error, and for no tree.
func checkNoTree(t *testing.T, c api.Chart, want error) {
	t.Helper()
	one, err := tree.New(c)
	if one != nil {
		t.Errorf("New(%v) = a tree beside %v", c, err)
	}
	if !sameError(err, want) {
		t.Errorf("New(%v): %v, want %v", c, err, want)
	}
}

// sameError tells whether two errors are both none, the same Code itself, or
// Spots of the same place and Code.
func sameError(a, b error) bool {
	x, isSpot := a.(*api.Spot)
	y, ok := b.(*api.Spot)
	if isSpot && ok {
		return *x == *y
	}
	return !isSpot && !ok && a == b
}

func TestTooManyOrTooFew(t *testing.T) {
	checkNoTree(t, api.Chart{}, api.ErrLarge)
	checkNoTree(t, drawn("C("+strings.Repeat("A", 24)+")"), api.ErrLarge)
	for _, change := range []func(*api.Chart){
		func(c *api.Chart) { c.Vars = -1 },
		func(c *api.Chart) { c.Vars = 9 },
		func(c *api.Chart) { c.Trans = slices.Repeat(c.Trans[:1], 41) },
		func(c *api.Chart) { c.States = c.States[:0] },
	} {
		c := laden()
		change(&c)
		checkNoTree(t, c, api.ErrLarge)
	}
}

func TestChartsAtFault(t *testing.T) {
	for _, one := range []struct {
		change func(*api.Chart)
		at     int
		err    api.Code
	}{
		{func(c *api.Chart) { c.States[0].Kind = api.Parallel }, 0, api.ErrKind},
		{func(c *api.Chart) { c.States[0].Parent = 0 }, 0, api.ErrArg},
		{func(c *api.Chart) { c.States[0].Initial = nil }, 0, api.ErrTarget},
		{func(c *api.Chart) { c.States[3].Initial[0] = 6 }, 3, api.ErrTarget},
		{func(c *api.Chart) { c.States[13].Kind = 7 }, 13, api.ErrKind},
		{func(c *api.Chart) { c.States[21].Parent = 22 }, 21, api.ErrArg},
		{func(c *api.Chart) { c.States[21].Parent = 2 }, 21, api.ErrArg},
		{func(c *api.Chart) { c.States[17].Kind, c.States[18].Kind = api.Shallow, api.Deep }, 16, api.ErrNone},
		{func(c *api.Chart) { c.States[21].Kind = api.Final }, 21, api.ErrKind},
		{func(c *api.Chart) { c.States[22].Exit[0].N = 0 }, 22, api.ErrArg},
		{func(c *api.Chart) { c.Trans[0].Source = 0 }, 23, api.ErrKind},
		{func(c *api.Chart) { c.Trans[1].Event = 2023 }, 24, api.ErrArg},
		{func(c *api.Chart) { c.Trans[0].Targets[1] = 22 }, 23, api.ErrTarget},
		{func(c *api.Chart) { c.Trans[2].Guard = "c" }, 25, api.ErrType},
		{func(c *api.Chart) { c.Trans[2].Acts[0].Expr = "d" }, 25, api.ErrArg},
	} {
		c := laden()
		one.change(&c)
		checkNoTree(t, c, &api.Spot{At: one.at, Err: one.err})
		c.States[0].Kind = 0
		checkNoTree(t, c, &api.Spot{At: 0, Err: api.ErrKind})
		planted(t, laden())
	}
}
