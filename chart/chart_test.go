package chart_test

import (
	"errors"
	"math"
	"reflect"
	"slices"
	"strconv"
	"strings"
	"testing"

	"spinet/api"
	"spinet/chart"
)

// letters are, by their Kinds, what states are written with here.
const letters = ".ACPFSD"

// rich has each of the six Kinds, nested Compounds and Parallels, and
// histories of both kinds in both. In 1: 2 to 8, in 3: 4 to 6; in 9: 10 to 21,
// in 10: 11 to 16, in 12: 13 to 15, in 14: 15, in 17: 18 and 19.
const rich = "C-1:1 C0:2 A1 C1:4 A3 F3 S3:4 D1:4 F1 P0 C9:11 A10 P10 A12 C12:15 A14 S10:12 C9:18 A17 F17 D9:15 A9 F0"

// drawn is the chart of no variables and no transitions that is written so: of
// each state its Kind's letter, its Parent, and behind a colon its Initial.
func drawn(t testing.TB, s string) api.Chart {
	t.Helper()
	var c api.Chart
	for _, w := range strings.Fields(s) {
		parent, initial, has := strings.Cut(w[1:], ":")
		state := api.State{Kind: strings.Index(letters, w[:1]), Parent: whole(t, parent)}
		if has {
			state.Initial = []int{whole(t, initial)}
		}
		c.States = append(c.States, state)
	}
	return c
}

func whole(t testing.TB, s string) int {
	t.Helper()
	n, err := strconv.Atoi(s)
	if err != nil {
		t.Fatalf("no number: %q", s)
	}
	return n
}

// with is the chart with these transitions.
func with(c api.Chart, trans ...api.Trans) api.Chart {
	c.Trans = trans
	return c
}

// repeated is so many of one.
func repeated[T any](one T, n int) []T { return slices.Repeat([]T{one}, n) }

func checkMay(t *testing.T, c api.Chart) {
	t.Helper()
	if err := chart.Check(c); err != nil {
		t.Errorf("Check(%v): %v, want none", c, err)
	}
}

// checkFault asks for a Spot, with that place.
func checkFault(t *testing.T, c api.Chart, at int, want api.Code) {
	t.Helper()
	err := chart.Check(c)
	spot, ok := err.(*api.Spot)
	if !ok || *spot != (api.Spot{At: at, Err: want}) {
		t.Errorf("Check(%v): %v, want %v at %d, as a Spot", c, err, want, at)
	}
	if ok && !errors.Is(err, want) {
		t.Errorf("Check(%v): %v isn't %v", c, err, want)
	}
}

// checkLarge asks for the Code itself.
func checkLarge(t *testing.T, c api.Chart) {
	t.Helper()
	if err := chart.Check(c); err != error(api.ErrLarge) {
		t.Errorf("Check(%v): %v, want ErrLarge itself", c, err)
	}
}

func checkKids(t *testing.T, c api.Chart, s int, want ...int) {
	t.Helper()
	if got := chart.Kids(c, s); !slices.Equal(got, want) {
		t.Errorf("Kids(%v, %d) = %v, want %v", c, s, got, want)
	}
}

// P5.1: ordinary charts.

func TestOrdinaryCharts(t *testing.T) {
	for _, s := range []string{
		"C-1:1 A0", "C-1:1 F0", "C-1:2 A0 A0", "C-1:1 P0 A1", "C-1:1 P0 A1 A1",
		"C-1:1 C0:2 A1", "C-1:2 C0:2 A1", "C-1:1 C0:2 F1", "C-1:1 C0:2 A1 F1 F0",
		"C-1:1 P0 P1 P2 A3", "C-1:4 P0 P1 P2 A3", "C-1:1 C0:2 C1:3 C2:4 A3 A3 A2 A1 A0",
		"C-1:1 P0 C1:3 A2 F2 C1:6 A5 F5 F0", "C-1:1 P0 A1 C1:4 A3 A1 A0",
		"C-1:1 C0:2 A1 S1:2", "C-1:1 C0:2 A1 D1:2", "C-1:1 C0:3 S1:3 A1", "C-1:1 C0:3 D1:3 A1",
		"C-1:1 P0 A1 S1:2", "C-1:1 P0 S1:3 A1", "C-1:1 P0 D1:4 C1:4 A3",
		"C-1:1 C0:2 C1:3 A2 S2:3 S1:2 D1:3", rich,
	} {
		checkMay(t, drawn(t, s))
	}
}

// P5.1: how many states there are.

func TestHowManyStates(t *testing.T) {
	checkLarge(t, api.Chart{})
	checkLarge(t, api.Chart{States: []api.State{}, Trans: []api.Trans{{}}})
	checkFault(t, drawn(t, "C-1:0"), 0, api.ErrNone)
	for _, n := range []int{2, 3, 23, 24, 25, 26, 100} {
		flat := drawn(t, "C-1:1"+strings.Repeat(" A0", n-1))
		nested := drawn(t, "C-1:1")
		for s := 1; s < n; s++ {
			nested.States = append(nested.States, api.State{Kind: api.Compound, Parent: s - 1, Initial: []int{s + 1}})
		}
		nested.States[n-1].Kind, nested.States[n-1].Initial = api.Atomic, nil
		for _, c := range []api.Chart{flat, nested} {
			if n <= 24 {
				checkMay(t, c)
			} else {
				checkLarge(t, c)
			}
		}
	}
}

// P5.1: how many variables, and transitions, there are.

func TestHowManyVars(t *testing.T) {
	c := drawn(t, "C-1:1 A0")
	for _, vars := range []int{0, 1, 7, 8} {
		c.Vars = vars
		checkMay(t, c)
	}
	for _, vars := range []int{math.MinInt, -9, -8, -1, 9, 10, 26, math.MaxInt} {
		c.Vars = vars
		checkLarge(t, c)
	}
}

func TestHowManyTransitions(t *testing.T) {
	c := drawn(t, "C-1:1 A0")
	for _, n := range []int{0, 1, 39, 40} {
		checkMay(t, with(c, repeated(api.Trans{Source: 1, Targets: []int{1}}, n)...))
	}
	for _, n := range []int{41, 42, 1000} {
		checkLarge(t, with(c, repeated(api.Trans{Source: 1}, n)...))
	}
}

// P5.1, R1: ErrLarge goes ahead of all other faults.

func TestLargeGoesAhead(t *testing.T) {
	bad := api.Chart{States: make([]api.State, 3), Trans: make([]api.Trans, 2)}
	checkFault(t, bad, 0, api.ErrKind)
	for _, vars := range []int{-1, 9} {
		c := bad
		c.Vars = vars
		checkLarge(t, c)
	}
	checkLarge(t, api.Chart{States: make([]api.State, 25)})
	checkLarge(t, api.Chart{Trans: make([]api.Trans, 2)})
	checkLarge(t, with(bad, make([]api.Trans, 41)...))
}

// P5.1, R1: of several states, and transitions, at fault the first one, states
// ahead of transitions.

func TestFirstAtFault(t *testing.T) {
	sound := func() api.Chart {
		return with(drawn(t, rich), api.Trans{Source: 1}, api.Trans{Source: 2}, api.Trans{Source: 3})
	}
	checkMay(t, sound())
	last := len(sound().States) - 1
	for s := range last + 1 {
		c := sound()
		c.States[s].Kind = 0
		checkFault(t, c, s, api.ErrKind)
		c.States[last].Initial = []int{1}
		c.Trans[0].Source = 0
		c.Trans[2].Event = -1
		checkFault(t, c, s, api.ErrKind)
	}
	c := sound()
	c.Trans[2].Source = 0
	checkFault(t, c, last+3, api.ErrKind)
	c.Trans[1].Event = -1
	checkFault(t, c, last+2, api.ErrArg)
	c.Trans[0].Guard = "?"
	checkFault(t, c, last+1, api.ErrType)
	c.States[last].Initial = []int{1}
	checkFault(t, c, last, api.ErrTarget)
	c.States[17].Exit = []api.Act{{}}
	checkFault(t, c, 17, api.ErrArg)
	c.States[4].Kind = api.Parallel
	checkFault(t, c, 4, api.ErrNone)
}

// P5.2: charts that may be.

func TestKidsOfCharts(t *testing.T) {
	c := drawn(t, rich)
	for s, want := range map[int][]int{0: {1, 9, 22}, 1: {2, 3, 8}, 3: {4, 5}, 9: {10, 17, 21}, 10: {11, 12}, 12: {13, 14}, 14: {15}, 17: {18, 19}} {
		checkKids(t, c, s, want...)
	}
	for _, s := range []int{2, 4, 5, 6, 7, 8, 11, 13, 15, 16, 18, 19, 20, 21, 22} {
		checkKids(t, c, s)
	}
	checkKids(t, drawn(t, "C-1:1"+strings.Repeat(" A0", 5)), 0, 1, 2, 3, 4, 5)
	checkKids(t, drawn(t, "C-1:1 P0 S1:4 D1:4 A1 S1:4 A1"), 1, 4, 6)
}

// P5.2: of a number that is no state's: those whose Parent it is all the same.

func TestKidsOfNoState(t *testing.T) {
	c := drawn(t, rich)
	checkKids(t, c, -1, 0)
	for _, s := range []int{math.MinInt, -2, 23, 24, 1000, math.MaxInt} {
		checkKids(t, c, s)
	}
	for _, s := range []int{math.MinInt, -2, -1, 3, 4, math.MaxInt} {
		c := drawn(t, "A0 S0 D0")
		checkKids(t, c, s)
		c.States[2].Parent, c.States[1].Parent, c.States[0].Parent = s, s, s
		checkKids(t, c, s, 0)
		c.States[2].Kind = api.Final
		checkKids(t, c, s, 0, 2)
	}
}

// P5.2: of any chart: no states, too many, Parents that aren't ahead, and
// Kinds that are none, which are no history.

func TestKidsOfAnyChart(t *testing.T) {
	for _, s := range []int{-1, 0, 1} {
		checkKids(t, api.Chart{}, s)
		checkKids(t, api.Chart{Vars: -1, Trans: make([]api.Trans, 50)}, s)
	}
	checkKids(t, drawn(t, "A1 A0 A2 A1 A9"), 0, 1)
	checkKids(t, drawn(t, "A1 A0 A2 A1 A9"), 1, 0, 3)
	checkKids(t, drawn(t, "A1 A0 A2 A1 A9"), 2, 2)
	checkKids(t, drawn(t, "A1 A0 A2 A1 A9"), 9, 4)
	checkKids(t, drawn(t, "S0 A0 D0 F0 S0 P0"), 0, 1, 3, 5)
	many := drawn(t, "C-1:1"+strings.Repeat(" S0 A0", 50))
	kids := chart.Kids(many, 0)
	if len(kids) != 50 || kids[0] != 2 || kids[49] != 100 || !slices.IsSorted(kids) {
		t.Errorf("Kids of 101 states: %v", kids)
	}
	for _, kind := range []int{math.MinInt, -1, 0, 1, 2, 3, 4, 7, 8, math.MaxInt} {
		checkKids(t, api.Chart{States: []api.State{{Kind: kind, Parent: 5}}}, 5, 0)
	}
	for _, kind := range []int{api.Shallow, api.Deep} {
		checkKids(t, api.Chart{States: []api.State{{Kind: kind, Parent: 5}}}, 5)
	}
}

// full is a chart of which each list has room behind its end.
func full(t *testing.T) api.Chart {
	acts := func() []api.Act {
		l := []api.Act{{Kind: api.Assign, N: 1, Expr: "a+1"}, {Kind: api.Send, N: 4, M: 5, Expr: "b"}, {Kind: 77, N: 88}}
		return l[:2]
	}
	c := drawn(t, rich+" A99")
	for s := range c.States {
		if c.States[s].Kind < api.Shallow {
			c.States[s].Entry, c.States[s].Exit = acts(), acts()
		}
		c.States[s].Initial = append(c.States[s].Initial, -7)[:len(c.States[s].Initial)]
	}
	c.States = c.States[:len(c.States)-1]
	for range 3 {
		targets := []int{13, 18, 21, 99}
		c.Trans = append(c.Trans, api.Trans{Source: 11, Event: 3, Guard: "a<b", Targets: targets[:3], Internal: true, Acts: acts()})
	}
	c.Trans = c.Trans[:2]
	c.Vars = 2
	return c
}

// behind is a chart with what stands behind the ends of its lists, too.
func behind(c api.Chart) api.Chart {
	c.States, c.Trans = slices.Clone(c.States[:cap(c.States)]), slices.Clone(c.Trans[:cap(c.Trans)])
	for s, one := range c.States {
		c.States[s].Initial = slices.Clone(one.Initial[:cap(one.Initial)])
		c.States[s].Entry, c.States[s].Exit = slices.Clone(one.Entry[:cap(one.Entry)]), slices.Clone(one.Exit[:cap(one.Exit)])
	}
	for i, one := range c.Trans {
		c.Trans[i].Targets, c.Trans[i].Acts = slices.Clone(one.Targets[:cap(one.Targets)]), slices.Clone(one.Acts[:cap(one.Acts)])
	}
	return c
}

// P5.3: what is handed in stays as it is, behind its ends, too; and nothing is
// kept: asked again, and once that is changed, each tells as it is then.

func TestWhatIsHandedInStays(t *testing.T) {
	c := full(t)
	was := behind(c)
	for range 2 {
		checkMay(t, c)
		checkKids(t, c, 9, 10, 17, 21)
		if !reflect.DeepEqual(behind(c), was) {
			t.Fatalf("%v became %v", was, behind(c))
		}
	}
	c.Trans[1].Targets[2] = 17
	was = behind(c)
	checkFault(t, c, 24, api.ErrTarget)
	c.States[21].Parent = 10
	checkFault(t, c, 21, api.ErrArg)
	checkKids(t, c, 9, 10, 17)
	c.States[21].Parent = 9
	if !reflect.DeepEqual(behind(c), was) {
		t.Errorf("%v became %v", was, behind(c))
	}
	c.Trans[1].Targets[2] = 21
	checkMay(t, c)
}

// P5.3: what is told is new memory: kids of one call, and their room, and the
// Spot of one call, are no other's.

func TestWhatIsToldIsNew(t *testing.T) {
	c := drawn(t, rich)
	first, second := chart.Kids(c, 9), chart.Kids(c, 9)
	first[0] = 77
	_ = append(first, 78)
	if !slices.Equal(second, []int{10, 17, 21}) {
		t.Errorf("kids became %v", second)
	}
	_ = append(second, 79)
	checkKids(t, c, 9, 10, 17, 21)
	checkKids(t, c, 10, 11, 12)

	c.States[5].Kind = 0
	err := chart.Check(c)
	*err.(*api.Spot) = api.Spot{At: 77, Err: 78}
	checkFault(t, c, 5, api.ErrKind)
}

// P1: no call panics, at numbers of whatever size.

func TestNumbersOfAnySize(t *testing.T) {
	for _, n := range []int{math.MinInt, math.MinInt + 1, math.MinInt32, -1000, 1000, math.MaxInt32, math.MaxInt - 1, math.MaxInt} {
		for s := range drawn(t, rich).States {
			c := drawn(t, rich)
			c.States[s].Kind = n
			checkFault(t, c, s, api.ErrKind)
			c = drawn(t, rich)
			c.States[s].Parent = n
			if at := chart.Check(c).(*api.Spot).At; at > s {
				t.Errorf("Parent %d of state %d: At %d", n, s, at)
			}
			if kind := c.States[s].Kind; kind < api.Shallow {
				checkKids(t, c, n, s)
			}
			c = drawn(t, rich)
			c.States[s].Initial = []int{n}
			checkFault(t, c, s, api.ErrTarget)
		}
		c := drawn(t, rich)
		checkFault(t, with(c, api.Trans{Source: n}), 23, api.ErrKind)
		checkFault(t, with(c, api.Trans{Source: 1, Targets: []int{n}}), 23, api.ErrTarget)
		checkFault(t, with(c, api.Trans{Source: 1, Targets: []int{n, 2, n}}), 23, api.ErrTarget)
		if n != 1000 {
			checkFault(t, with(c, api.Trans{Source: 1, Event: n}), 23, api.ErrArg)
		}
	}
}
