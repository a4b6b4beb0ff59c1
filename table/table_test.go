package table_test

import (
	"slices"
	"testing"

	"spinet/table"
)

// row is what a table tells of a state without its transitions.
type row struct {
	up, below, kids, entered []int
}

// checkRows asks for each state that there is.
func checkRows(t *testing.T, one *table.Table, rows []row) {
	t.Helper()
	if n := len(one.Chart().States); n != len(rows) {
		t.Fatalf("%d rows for %d states", len(rows), n)
	}
	for s, want := range rows {
		if got := one.Up(s); got != set(want.up...) {
			t.Errorf("Up(%d) = %v, want %v", s, members(got), want.up)
		}
		if got := one.Below(s); got != set(want.below...) {
			t.Errorf("Below(%d) = %v, want %v", s, members(got), want.below)
		}
		if got := one.Kids(s); got != set(want.kids...) {
			t.Errorf("Kids(%d) = %v, want %v", s, members(got), want.kids)
		}
		checkDefault(t, one, s, want.entered...)
	}
}

// P14.1: ordinary charts, of each Kind of state, with all that is told of each.

func TestOrdinaryCharts(t *testing.T) {
	checkRows(t, made(t, drawn(smallest)), []row{
		{nil, []int{1}, []int{1}, []int{0, 1}},
		{[]int{0}, nil, nil, []int{1}},
	})
	checkRows(t, made(t, drawn("C(C(A) P(A C(F)) F)")), []row{
		{nil, []int{1, 2, 3, 4, 5, 6, 7}, []int{1, 3, 7}, []int{0, 1, 2}},
		{[]int{0}, []int{2}, []int{2}, []int{1, 2}},
		{[]int{1, 0}, nil, nil, []int{2}},
		{[]int{0}, []int{4, 5, 6}, []int{4, 5}, []int{3, 4, 5, 6}},
		{[]int{3, 0}, nil, nil, []int{4}},
		{[]int{3, 0}, []int{6}, []int{6}, []int{5, 6}},
		{[]int{5, 3, 0}, nil, nil, []int{6}},
		{[]int{0}, nil, nil, []int{7}},
	})
	checkRows(t, made(t, drawn("C(P(P(A A) P(A)))")), []row{
		{nil, []int{1, 2, 3, 4, 5, 6}, []int{1}, []int{0, 1, 2, 3, 4, 5, 6}},
		{[]int{0}, []int{2, 3, 4, 5, 6}, []int{2, 5}, []int{1, 2, 3, 4, 5, 6}},
		{[]int{1, 0}, []int{3, 4}, []int{3, 4}, []int{2, 3, 4}},
		{[]int{2, 1, 0}, nil, nil, []int{3}},
		{[]int{2, 1, 0}, nil, nil, []int{4}},
		{[]int{1, 0}, []int{6}, []int{6}, []int{5, 6}},
		{[]int{5, 1, 0}, nil, nil, []int{6}},
	})
}

// Histories have an Up, but are in no Below, in no Kids and in no Default;
// nothing is in them, and by default nothing is entered below them.

func TestHistories(t *testing.T) {
	checkRows(t, made(t, drawn("C(C(S A D) P(D A S))")), []row{
		{nil, []int{1, 3, 5, 7}, []int{1, 5}, []int{0, 1, 3}},
		{[]int{0}, []int{3}, []int{3}, []int{1, 3}},
		{[]int{1, 0}, nil, nil, nil},
		{[]int{1, 0}, nil, nil, []int{3}},
		{[]int{1, 0}, nil, nil, nil},
		{[]int{0}, []int{7}, []int{7}, []int{5, 7}},
		{[]int{5, 0}, nil, nil, nil},
		{[]int{5, 0}, nil, nil, []int{7}},
		{[]int{5, 0}, nil, nil, nil},
	})
}

func richRows() []row {
	return []row{
		{nil, []int{1, 2, 4, 5, 6, 7, 9, 11, 12, 13, 14, 15, 16, 17, 18, 21, 22}, []int{1, 2, 11, 22}, []int{0, 1}},
		{[]int{0}, nil, nil, []int{1}},
		{[]int{0}, []int{4, 5, 6, 7, 9}, []int{4, 5, 9}, []int{2, 4}},
		{[]int{2, 0}, nil, nil, nil},
		{[]int{2, 0}, nil, nil, []int{4}},
		{[]int{2, 0}, []int{6, 7}, []int{6, 7}, []int{5, 6}},
		{[]int{5, 2, 0}, nil, nil, []int{6}},
		{[]int{5, 2, 0}, nil, nil, []int{7}},
		{[]int{5, 2, 0}, nil, nil, nil},
		{[]int{2, 0}, nil, nil, []int{9}},
		{[]int{2, 0}, nil, nil, nil},
		{[]int{0}, []int{12, 13, 14, 15, 16, 17, 18, 21}, []int{12, 21}, []int{11, 12, 13, 21}},
		{[]int{11, 0}, []int{13, 14, 15, 16, 17, 18}, []int{13, 14}, []int{12, 13}},
		{[]int{12, 11, 0}, nil, nil, []int{13}},
		{[]int{12, 11, 0}, []int{15, 16, 17, 18}, []int{15, 16}, []int{14, 15, 16, 17}},
		{[]int{14, 12, 11, 0}, nil, nil, []int{15}},
		{[]int{14, 12, 11, 0}, []int{17, 18}, []int{17, 18}, []int{16, 17}},
		{[]int{16, 14, 12, 11, 0}, nil, nil, []int{17}},
		{[]int{16, 14, 12, 11, 0}, nil, nil, []int{18}},
		{[]int{14, 12, 11, 0}, nil, nil, nil},
		{[]int{11, 0}, nil, nil, nil},
		{[]int{11, 0}, nil, nil, []int{21}},
		{[]int{0}, nil, nil, []int{22}},
	}
}

func TestRichChart(t *testing.T) {
	checkRows(t, made(t, drawn(rich)), richRows())
	checkRows(t, made(t, laden()), richRows())
}

// An Initial changes what is entered by default, and nothing else.

func TestInitialChangesDefaultAlone(t *testing.T) {
	rows := richRows()
	for s, of := range map[int][]int{
		0:  {0, 11, 12, 14, 15, 16, 18, 21},
		2:  {2, 5, 7},
		5:  {5, 7},
		11: {11, 12, 14, 15, 16, 17, 21},
		12: {12, 14, 15, 16, 17},
	} {
		rows[s].entered = of
	}
	checkRows(t, made(t, drawn("C18(A C7(S A C7(A F D) F D) P(C17(A P(A C(A F) S)) D A) F)")), rows)
}

// P14.1: the transitions of each state, in order: none, one, several, by and by.

func TestFrom(t *testing.T) {
	c := drawn(rich, from(1), from(2), from(1), from(11), from(17), from(1), from(2), from(16), from(21))
	one := made(t, c)
	want := map[int][]int{1: {0, 2, 5}, 2: {1, 6}, 11: {3}, 16: {7}, 17: {4}, 21: {8}}
	for s := range c.States {
		checkFrom(t, one, s, want[s]...)
	}
	for s := range c.States {
		checkFrom(t, made(t, drawn(rich)), s)
	}
}

// A transition counts for its Source alone, whatever its Event, its Targets and
// its Guard are; and there is none of a Final, of a history and of the first
// state, which are no Sources.

func TestFromIsOfTheSourceAlone(t *testing.T) {
	c := laden()
	one := made(t, c)
	want := map[int][]int{1: {0}, 2: {1, 4}, 11: {2}, 17: {3}}
	for s := range c.States {
		checkFrom(t, one, s, want[s]...)
	}
	for _, s := range []int{0, 3, 7, 8, 9, 10, 18, 19, 20, 22} {
		if got := one.From(s); len(got) > 0 {
			t.Errorf("From(%d) = %v, want none", s, got)
		}
	}
	slices.Reverse(c.Trans)
	want = map[int][]int{1: {4}, 2: {0, 3}, 11: {2}, 17: {1}}
	for s := range c.States {
		checkFrom(t, made(t, c), s, want[s]...)
	}
}
