package enter_test

import (
	"reflect"
	"slices"
	"testing"

	"spinet/api"
	"spinet/enter"
	"spinet/tree"
)

// room is a list that has room behind its end, with something there.
func room[T any](l []T, behind T) []T { return slices.Concat(l, []T{behind, behind})[:len(l)] }

// whole is a copy of a list, and of what has room behind its end.
func whole[T any](l []T) []T { return slices.Clone(l[:cap(l)]) }

var rows = [][]int{{}, {6}, {20}, {3, 19, 8}, {18, 17, 18, 15}, {20, 21, 20}, {22, 1, 6, 10}, {0, 6}, {6, -1}, {99, 3}, {17, 4, 0, 23, -5, 17}}

var lists = []sets{{}, {20: {15, 18}}, {3: {9, 4}, 8: {7}, 10: {7, 9}, 19: {16}, 20: {13, 21}}, {0: {1}, 1: {22}, 22: {3}}}

// P8.2, R2: the row of targets, the histories' sets and the tree stay as they
// were, behind the lists' ends, too.

func TestWhatIsHandedInStays(t *testing.T) {
	one := planted(t, drawn(rich))
	was := one.Chart()
	for _, of := range lists {
		for _, row := range rows {
			for n := range 30 {
				hist, l := room(of.list(30)[:n], 0xabcd), room(row, 20)
				wasHist, wasRow := whole(hist), whole(l)
				enter.Real(one, hist, l)
				for _, from := range []int{-1, 0, 2, 11, 12, 18, 99} {
					enter.Set(one, hist, from, l)
				}
				if !slices.Equal(whole(hist), wasHist) || !slices.Equal(whole(l), wasRow) {
					t.Fatalf("%v, %v became %v, %v", wasHist, wasRow, whole(hist), whole(l))
				}
			}
		}
	}
	if !reflect.DeepEqual(one.Chart(), was) {
		t.Errorf("the tree's chart became %v, was %v", one.Chart(), was)
	}
}

// What is told is new memory: it may be changed, and added to, and neither the
// row of targets, nor a set, nor the tree, nor what is told another time changes.

func TestWhatIsToldIsNew(t *testing.T) {
	one := planted(t, drawn(rich))
	was := one.Chart()
	for _, of := range lists {
		for _, row := range rows {
			hist, l := room(of.list(23), 0xabcd), room(row, 20)
			wasHist, wasRow := whole(hist), whole(l)
			first, second := enter.Real(one, hist, l), enter.Real(one, hist, l)
			want := slices.Clone(first)
			spoil(append(first, -7))
			spoil(first)
			if !slices.Equal(second, want) {
				t.Fatalf("Real(%v, %v) became %v, was %v", hist, l, second, want)
			}
			checkReal(t, one, hist, l, want...)
			if !slices.Equal(whole(hist), wasHist) || !slices.Equal(whole(l), wasRow) {
				t.Fatalf("%v, %v became %v, %v", wasHist, wasRow, whole(hist), whole(l))
			}
		}
	}
	if !reflect.DeepEqual(one.Chart(), was) {
		t.Errorf("the tree's chart became %v, was %v", one.Chart(), was)
	}
}

// spoil changes all that a row has, and what has room behind its end.
func spoil(l []int) {
	l = l[:cap(l)]
	for i := range l {
		l[i] = -77
	}
}

// What a history without a set stands for is its Initial, but not the chart's
// own row.

func TestInitialToldIsNew(t *testing.T) {
	handed := drawn(rich)
	one := planted(t, handed)
	for range 2 {
		for h, want := range map[int]int{3: 4, 8: 6, 10: 7, 19: 15, 20: 17} {
			real := enter.Real(one, nil, []int{h})
			spoil(real)
			checkReal(t, one, nil, []int{h}, want)
			if got := handed.States[h].Initial; !slices.Equal(got, []int{want}) {
				t.Errorf("Initial of %d became %v", h, got)
			}
		}
	}
	for s := range handed.States {
		spoil(handed.States[s].Initial)
	}
	checkFromOutside(t, one, nil, []int{20}, 11, 12, 14, 15, 16, 17, 21)
	checkFromOutside(t, one, nil, []int{2}, 2, 4)
}

// Nothing is kept: what is handed in may be changed afterwards, and each call
// tells of its own tree, sets and row.

func TestNothingIsKept(t *testing.T) {
	one, other := planted(t, drawn(rich)), planted(t, drawn(regions))
	hist, l := sets{20: {15, 18}, 11: {7, 9}}.list(23), []int{20}
	for range 3 {
		checkReal(t, one, hist, l, 15, 18)
		checkFromOutside(t, one, hist, l, 11, 12, 14, 15, 16, 18, 21)
		checkReal(t, one, nil, l, 17)
		checkFromOutside(t, one, nil, l, 11, 12, 14, 15, 16, 17, 21)
		hist[20] = set(13)
		checkReal(t, one, hist, l, 13)
		checkFromOutside(t, one, hist, l, 11, 12, 13, 21)
		hist[20] = 0
		checkReal(t, one, hist, l, 17)
		hist[20] = set(15, 18)
		checkReal(t, other, hist, []int{11}, 7, 9)
		checkFromOutside(t, other, hist, []int{11}, 1, 3, 4, 6, 7, 8, 9, 12, 14, 16, 18)
		l[0] = 22
		checkReal(t, one, hist, l, 22)
		checkFromOutside(t, one, hist, l, 22)
		l[0] = 20
		checkReal(t, nil, hist, l)
		checkSet(t, one, hist, 0, nil)
	}
}

// Calls beside each other, with one tree, tell what they tell alone.

func TestCallsBesideEachOther(t *testing.T) {
	one := planted(t, drawn(rich))
	done := make(chan bool)
	hist := sets{20: {15, 18}}.list(23)
	l := []int{20, 21}
	ask := func() {
		ok := true
		for range 200 {
			ok = ok && slices.Equal(enter.Real(one, hist, l), []int{15, 18, 21})
			ok = ok && enter.Set(one, hist, 0, l) == set(11, 12, 14, 15, 16, 18, 21)
		}
		done <- ok
	}
	for range 4 {
		go ask()
	}
	for range 4 {
		if !<-done {
			t.Error("told something else")
		}
	}
}

// A tree that was made of a chart that may not be isn't there: nothing is told.

func TestTreeOfNoChart(t *testing.T) {
	one, err := tree.New(api.Chart{})
	if err == nil {
		t.Fatal("a tree of no states")
	}
	checkReal(t, one, nil, []int{0, 1})
	checkSet(t, one, nil, -1, []int{0, 1})
}
