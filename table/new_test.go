package table_test

import (
	"reflect"
	"slices"
	"strings"
	"testing"

	"spinet/api"
	"spinet/chart"
	"spinet/table"
)

// P14.1: the chart, with all that it has.

func checkChart(t *testing.T, one *table.Table, want api.Chart) {
	t.Helper()
	if got := one.Chart(); !reflect.DeepEqual(plain(got), plain(want)) {
		t.Errorf("Chart() = %v, want %v", got, want)
	}
}

func TestChartIsTheChart(t *testing.T) {
	empty := drawn(smallest)
	empty.Trans = []api.Trans{}
	empty.States[1] = api.State{Kind: api.Final, Initial: []int{}, Entry: []api.Act{}, Exit: []api.Act{}}
	bare := drawn(smallest)
	bare.Vars = 0
	for _, c := range []api.Chart{laden(), empty, bare, drawn(smallest), drawn(rich), drawn(chain()), drawn(mixed()), drawn(stairs()), drawn(flat()), drawn(wide()), greatest()} {
		one := made(t, c)
		for range 3 {
			checkChart(t, one, c)
		}
		if err := chart.Check(one.Chart()); err != nil {
			t.Errorf("Check(%v): %v", one.Chart(), err)
		}
	}
}

// Each field of it: a chart that differs in just one place is told with that.

func TestChartHasEachField(t *testing.T) {
	for i, change := range []func(*api.Chart){
		func(c *api.Chart) { c.Vars = 8 },
		func(c *api.Chart) { c.States[22].Kind = api.Atomic },
		func(c *api.Chart) { c.States[9].Parent = 5 },
		func(c *api.Chart) { c.States[2].Initial[0] = 6 },
		func(c *api.Chart) { c.States[20].Initial[0] = 17 },
		func(c *api.Chart) { c.States[22].Entry[0].N = 999 },
		func(c *api.Chart) { c.States[22].Entry[0] = api.Act{Kind: api.Cancel, N: 23} },
		func(c *api.Chart) { c.States[5].Exit[0].N = 1 },
		func(c *api.Chart) { c.States[5].Exit = nil },
		func(c *api.Chart) { c.Trans[0].Source = 4 },
		func(c *api.Chart) { c.Trans[0].Event = 0 },
		func(c *api.Chart) { c.Trans[0].Guard = "" },
		func(c *api.Chart) { c.Trans[0].Guard = " a<3 " },
		func(c *api.Chart) { c.Trans[0].Targets[0] = 19 },
		func(c *api.Chart) { c.Trans[0].Targets = nil },
		func(c *api.Chart) { c.Trans[1].Internal = false },
		func(c *api.Chart) { c.Trans[0].Acts[0].Expr = "b * 2" },
		func(c *api.Chart) { c.Trans[2].Acts[0].M = 0 },
		func(c *api.Chart) { c.Trans[4], c.Trans[3] = c.Trans[3], c.Trans[4] },
		func(c *api.Chart) { c.Trans = c.Trans[:4] },
		func(c *api.Chart) { c.States, c.Trans = c.States[:22], c.Trans[:4] },
	} {
		c, want := laden(), laden()
		change(&c)
		change(&want)
		checkChart(t, made(t, c), want)
		if reflect.DeepEqual(plain(made(t, c).Chart()), plain(laden())) {
			t.Errorf("change %d isn't told", i)
		}
	}
}

// P14.1: of a chart that may not be chart.Check's error, and no table.

// checkNoTable asks for that error, and for no table.
func checkNoTable(t *testing.T, c api.Chart, want error) {
	t.Helper()
	one, err := table.New(c)
	if one != nil {
		t.Errorf("New(%v) = a table beside %v", c, err)
	}
	if !sameError(err, want) || !sameError(err, chart.Check(c)) {
		t.Errorf("New(%v): %v, want %v", c, err, want)
	}
}

// sameError tells whether two errors are both none, the same Code itself, or
// Spots of the same place and Code.
func sameError(a, b error) bool {
	x, isSpot := a.(*api.Spot)
	y, ok := b.(*api.Spot)
	if isSpot && ok {
		return *x == *y
	}
	return !isSpot && !ok && a == b
}

func TestTooManyOrTooFew(t *testing.T) {
	checkNoTable(t, api.Chart{}, api.ErrLarge)
	checkNoTable(t, drawn("C("+strings.Repeat("A", 24)+")"), api.ErrLarge)
	for _, change := range []func(*api.Chart){
		func(c *api.Chart) { c.Vars = -1 },
		func(c *api.Chart) { c.Vars = 9 },
		func(c *api.Chart) { c.Trans = slices.Repeat(c.Trans[:1], 41) },
		func(c *api.Chart) { c.States = c.States[:0] },
		func(c *api.Chart) { c.States = nil },
	} {
		for _, c := range []api.Chart{laden(), greatest()} {
			change(&c)
			checkNoTable(t, c, api.ErrLarge)
			c.States = slices.Clone(c.States)
			if len(c.States) > 0 {
				c.States[0].Kind = 0
			}
			checkNoTable(t, c, api.ErrLarge)
		}
	}
}

func TestChartsAtFault(t *testing.T) {
	for _, one := range []struct {
		change func(*api.Chart)
		at     int
		err    api.Code
	}{
		{func(c *api.Chart) { c.States[0].Kind = api.Parallel }, 0, api.ErrKind},
		{func(c *api.Chart) { c.States[0].Parent = 0 }, 0, api.ErrArg},
		{func(c *api.Chart) { c.States[0].Initial = nil }, 0, api.ErrTarget},
		{func(c *api.Chart) { c.States[2].Initial = []int{3} }, 2, api.ErrTarget},
		{func(c *api.Chart) { c.States[2].Initial = []int{11} }, 2, api.ErrTarget},
		{func(c *api.Chart) { c.States[2].Initial = []int{2} }, 2, api.ErrTarget},
		{func(c *api.Chart) { c.States[2].Initial = []int{-1} }, 2, api.ErrTarget},
		{func(c *api.Chart) { c.States[2].Initial = []int{4, 5} }, 2, api.ErrTarget},
		{func(c *api.Chart) { c.States[3].Initial[0] = 6 }, 3, api.ErrTarget},
		{func(c *api.Chart) { c.States[11].Initial = []int{12} }, 11, api.ErrTarget},
		{func(c *api.Chart) { c.States[13].Kind = 7 }, 13, api.ErrKind},
		{func(c *api.Chart) { c.States[21].Parent = 22 }, 21, api.ErrArg},
		{func(c *api.Chart) { c.States[21].Parent = 2 }, 21, api.ErrArg},
		{func(c *api.Chart) { c.States[17].Kind, c.States[18].Kind = api.Shallow, api.Deep }, 16, api.ErrNone},
		{func(c *api.Chart) { c.States[21].Kind = api.Final }, 21, api.ErrKind},
		{func(c *api.Chart) { c.States[22].Exit[0].N = 0 }, 22, api.ErrArg},
		{func(c *api.Chart) { c.Trans[0].Source = 0 }, 23, api.ErrKind},
		{func(c *api.Chart) { c.Trans[0].Source = 23 }, 23, api.ErrKind},
		{func(c *api.Chart) { c.Trans[1].Event = 2023 }, 24, api.ErrArg},
		{func(c *api.Chart) { c.Trans[0].Targets[1] = 22 }, 23, api.ErrTarget},
		{func(c *api.Chart) { c.Trans[2].Guard = "c" }, 25, api.ErrType},
		{func(c *api.Chart) { c.Trans[2].Guard = "c==" }, 25, api.ErrType},
		{func(c *api.Chart) { c.Trans[2].Guard = "d==d" }, 25, api.ErrType},
		{func(c *api.Chart) { c.Trans[2].Guard = " " }, 25, api.ErrType},
		{func(c *api.Chart) { c.Trans[2].Acts[0].Expr = "d" }, 25, api.ErrArg},
		{func(c *api.Chart) { c.Trans[4].Acts = []api.Act{{}} }, 27, api.ErrArg},
	} {
		c := laden()
		one.change(&c)
		checkNoTable(t, c, &api.Spot{At: one.at, Err: one.err})
		// Whichever is first: a fault further back changes nothing, one ahead does.
		c.Trans = append(slices.Clone(c.Trans), api.Trans{Source: -1})
		checkNoTable(t, c, &api.Spot{At: one.at, Err: one.err})
		c.States[0].Kind = 0
		checkNoTable(t, c, &api.Spot{At: 0, Err: api.ErrKind})
		made(t, laden())
	}
}
