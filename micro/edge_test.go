package micro_test

import (
	"math"
	"slices"
	"strings"
	"testing"

	"spinet/api"
)

// nowhere are numbers of no transition, where there are n.
func nowhere(n int) []int {
	return []int{
		-1, -2, -3, -40, -41, -32, -63, -64, -256, math.MinInt8, math.MinInt32, math.MinInt32 + 1, math.MinInt, math.MinInt + 1,
		n, n + 1, 40, 41, 63, 64, 65, 256, 257, 1 << 16, 1<<16 + 1, 1 << 32, 1<<32 + 1, 1 << 62, math.MaxInt32, math.MaxInt - 1, math.MaxInt,
	}
}

// P12.1: with no transitions nothing changes, however the session stands.

func TestNoTransitions(t *testing.T) {
	one := loudly(t, nest, to(5, 6), to(1, 2))
	for _, l := range [][]int{nil, {}, {-1}, {2}, nowhere(2)} {
		for _, conf := range []uint32{0, set(0, 1), set(5), inner, full, 1 << 31} {
			for _, s := range []session{
				standing(one, conf),
				standing(one, conf).keeps(7, 5, 6).keeps(13, 11).keeps(1, 1, 2, 3),
				standing(one, conf).with(1, -2, math.MaxInt64).inside(5, api.EventError, done(3), -7).as(api.Ended),
				standing(one, conf).as(api.Failed),
				standing(one, conf).as(-5).with(),
			} {
				checkStep(t, one, s, l, s)
			}
		}
	}
}

// Transitions that aren't there are passed by, wherever they stand in the list.

func TestTransitionsThatAreNotThere(t *testing.T) {
	one := loudly(t, nest, to(5, 6), to(17, 18), from(2))
	s := standing(one, inner)
	want := standing(one, inner&^set(5, 17)|set(6, 18)).happens(217, 205, 301, 300, 106, 118, done(16))
	for _, n := range nowhere(3) {
		checkStep(t, one, s, []int{n}, s)
		checkStep(t, one, s, []int{n, 1, 0}, want)
		checkStep(t, one, s, []int{1, n, 0}, want)
		checkStep(t, one, s, []int{n, 1, n, n, 0, n}, want)
	}
	checkStep(t, one, s, slices.Concat(nowhere(3), []int{1}, nowhere(3), []int{0}, nowhere(3)), want)
}

// A chart without transitions has none.

func TestAChartWithoutTransitions(t *testing.T) {
	one := loudly(t, nest)
	s := standing(one, inner)
	checkStep(t, one, s, []int{0}, s)
	checkStep(t, one, s, []int{-1, 0, 1, 39, 40}, s)
}

// The same one twice: it leaves and enters what it does once, but its Acts are
// done as often as it is in the list.

func TestTheSameTwice(t *testing.T) {
	one := loudly(t, nest, to(5, 6), from(12), to(17, 18))
	s := standing(one, inner)
	checkStep(t, one, s, []int{0, 0}, standing(one, inner&^set(5)|set(6)).happens(205, 300, 300, 106))
	checkStep(t, one, s, []int{1, 1, 1}, s.happens(301, 301, 301))
	checkStep(t, one, s, []int{0, 2, 0}, standing(one, inner&^set(5, 17)|set(6, 18)).happens(217, 205, 300, 302, 300, 106, 118, done(16)))
}

// A long list ends.

func TestALongList(t *testing.T) {
	c := drawn("C(A A)", to(1, 2), from(1))
	c.Trans[1].Acts = []api.Act{assign(0, "a+1")}
	one := planted(t, c)
	l := slices.Repeat([]int{1, -1, 1, 99}, 10_000)
	l = append(l, 0)
	checkStep(t, one, standing(one, set(0, 1)), l, standing(one, set(0, 2)).with(20_000, 0, 0))
}

// With nothing active nothing is left; what is entered is entered, up to the
// reach.

func TestNothingActive(t *testing.T) {
	one := loudly(t, nest, to(5, 6), to(1, 2), from(1), to(5, 20), to(4, 6))
	s := standing(one, 0)
	checkStep(t, one, s, []int{0}, standing(one, set(6)).happens(300, 106))
	checkStep(t, one, s, []int{1}, standing(one, inner&^set(0, 16, 17)|set(15)).happens(301, 102, 103, 104, 105, 108, 109, 110, 112, 114, 115))
	checkStep(t, one, s, []int{2}, s.happens(302))
	checkStep(t, one, s, []int{2, 0}, standing(one, set(6)).happens(302, 300, 106))
	checkStep(t, one, s, []int{4}, standing(one, set(3, 4, 6, 8, 9, 10, 12, 14, 15)).happens(304, 103, 104, 106, 108, 109, 110, 112, 114, 115))
}

// A transition is done, whether its Source is active or not.

func TestASourceThatIsNotActive(t *testing.T) {
	one := loudly(t, nest, to(5, 6), to(17, 18), to(16, 15))
	s := standing(one, set(0, 1))
	checkStep(t, one, s, []int{0}, s.at(0, 1, 6).happens(300, 106))
	checkStep(t, one, s, []int{1, 0}, s.at(0, 1, 6, 18).happens(301, 300, 106, 118, done(16)))
	checkStep(t, one, standing(one, set(0, 14, 15)), []int{2}, standing(one, set(0, 14, 15)).happens(215, 302, 115))
}

// Two that clash: what one of them leaves is left, what one of them enters is
// entered.

func TestTwoThatClash(t *testing.T) {
	one := loudly(t, nest, to(5, 6), to(5, 5), to(5, 1), to(2, 21))
	s := standing(one, set(0, 2, 4, 5))
	checkStep(t, one, s, []int{0, 1}, s.at(0, 2, 4, 5, 6).happens(205, 300, 301, 105, 106))
	checkStep(t, one, s, []int{0, 2}, s.at(0, 1, 6).keeps(7, 5).keeps(20).happens(205, 204, 202, 300, 302, 101, 106))
	checkStep(t, one, s, []int{3, 2}, s.at(0, 1, 2, 21).keeps(7, 5).happens(205, 204, 202, 303, 302, 101, 102, 121))
}

// Bits of states that aren't there stay, and change nothing else.

func TestBitsOfStatesThatAreNotThere(t *testing.T) {
	one := loudly(t, past, to(2, 1), to(9, 1), to(4, 3), from(2), to(1, 8))
	for _, bits := range []uint32{1 << 21, 1 << 23, 1 << 24, 1 << 31, full &^ (1<<21 - 1)} {
		s := standing(one, set(0, 2, 4, 5)|bits)
		checkStep(t, one, s, []int{0}, standing(one, set(0, 1)|bits).keeps(7, 4).keeps(8, 5).happens(205, 204, 202, 300, 101))
		checkStep(t, one, s, []int{2}, standing(one, set(0, 2, 3)|bits).happens(205, 204, 302, 103))
		checkStep(t, one, s, []int{3}, s.happens(303))
		checkStep(t, one, standing(one, bits), []int{4}, standing(one, set(2, 3)|bits).happens(304, 102, 103))
		checkStep(t, one, standing(one, bits|set(0, 9, 10, 12, 13, 15, 17)), []int{1}, standing(one, set(0, 1)|bits).keeps(18, 10, 13).keeps(19, 12, 17).
			happens(217, 215, 213, 212, 210, 209, 301, 101))
	}
}

// All bits: all that is in the reach is left, each from the greatest number down.

func TestAllBits(t *testing.T) {
	one := loudly(t, "C(A C(A F) F)", to(1, 3), to(2, 1), within(2, 3))
	s := standing(one, full)
	checkStep(t, one, s, []int{0}, standing(one, full&^set(1, 4, 5)).happens(205, 204, 203, 202, 201, 300, 102, 103))
	checkStep(t, one, s, []int{1}, standing(one, full&^set(2, 3, 4, 5)).happens(205, 204, 203, 202, 201, 301, 101))
	checkStep(t, one, s, []int{2}, standing(one, full&^set(4)).happens(204, 203, 302, 103))
}

// Variables that are too few, or more: an action that asks for one that isn't
// there is a mishap, and none is added.

func TestVariablesOfAnyNumber(t *testing.T) {
	c := drawn("C(A A)", to(1, 2))
	c.States[1].Exit = []api.Act{log("1"), assign(0, "10"), log("2")}
	c.Trans[0].Acts = []api.Act{log("3"), assign(1, "a+1"), log("4")}
	c.States[2].Entry = []api.Act{log("5"), assign(2, "a+b"), log("c")}
	one := planted(t, c)
	s, want := standing(one, set(0, 1)), standing(one, set(0, 2))
	for _, none := range [][]int64{nil, {}} {
		s.Env = none
		checkStep(t, one, s, []int{0}, want.with().inside(api.EventError, api.EventError, api.EventError).logs(1, 3, 5))
	}
	checkStep(t, one, s.with(7), []int{0}, want.with(10).inside(api.EventError, api.EventError).logs(1, 2, 3, 5))
	checkStep(t, one, s.with(7, 7), []int{0}, want.with(10, 11).inside(api.EventError).logs(1, 2, 3, 4, 5))
	checkStep(t, one, s.with(7, 7, 7), []int{0}, want.with(10, 11, 21).logs(1, 2, 3, 4, 5, 21))
	checkStep(t, one, s.with(7, 7, 7, 7, -9), []int{0}, want.with(10, 11, 21, 7, -9).logs(1, 2, 3, 4, 5, 21))
}

// The greatest chart that may be: as many states, transitions, variables and
// actions as it may have, in each form.

func greatest(s string) api.Chart {
	c := drawn(s)
	c.Vars = api.MaxVars
	act := func(n int) []api.Act {
		return []api.Act{assign(0, "a+1"), log("a"), raise(1 + n), {Kind: api.Send, N: api.MaxEvent, M: api.MaxDelay, Expr: "h+a"}, {Kind: api.Cancel, N: 1 + n}}
	}
	for k := range c.States {
		if !isHistory(c.States[k].Kind) {
			c.States[k].Entry, c.States[k].Exit = act(100+k), act(200+k)
		}
	}
	for i := range api.MaxTrans {
		one := to(1, 1)
		one.Acts = act(300 + i)
		c.Trans = append(c.Trans, one)
	}
	return c
}

func TestTheGreatestChart(t *testing.T) {
	for _, s := range []string{chain(), mixed(), flat(), wide()} {
		c := greatest(s)
		one := planted(t, c)
		run := firstOf(one)
		n := int64(len(members(run.Conf)))
		if len(run.outs) != 3*int(n) || len(run.Inner) != int(n) || run.Env[0] != n {
			t.Errorf("first of the greatest chart told %v", run)
		}
		l := make([]int, api.MaxTrans)
		for i := range l {
			l[i] = api.MaxTrans - 1 - i
		}
		next := run.stepped(one, l...)
		lists := 2*(n-1) + api.MaxTrans
		if next.Conf != run.Conf || len(next.outs) != 3*int(lists) || len(next.Inner) != int(n+lists) || next.Env[0] != n+lists {
			t.Errorf("a step of the greatest chart told %v", next)
		}
		for i, out := range next.outs {
			if want := n + 1 + int64(i/3); out.Kind != api.Cancel && out.To != want {
				t.Errorf("number %d of what went out is %v, want %d", i, out, want)
			}
		}
	}
}

// Chains of Compounds, and of Parallels among them, from the greatest number down
// and from the least one up.

func TestChains(t *testing.T) {
	for _, s := range []string{chain(), mixed()} {
		one := loudly(t, s, to(1, 1), to(23, 23))
		var happened []int
		for k := 23; k >= 1; k-- {
			happened = append(happened, 200+k)
		}
		happened = append(happened, 300)
		for k := 1; k <= 23; k++ {
			happened = append(happened, 100+k)
		}
		all := standing(one, 1<<24-1)
		checkStep(t, one, all, []int{0}, all.happens(happened...))
		checkStep(t, one, all, []int{1}, all.happens(223, 301, 123))
	}
}

// Without variables, and without actions, just what is active changes.

func TestABareChart(t *testing.T) {
	c := drawn("C(A A)", to(1, 2))
	c.Vars = 0
	one := planted(t, c)
	checkFirst(t, one, standing(one, set(0, 1)))
	checkStep(t, one, standing(one, set(0, 1)), []int{0}, standing(one, set(0, 2)))
}

// An action of the greatest numbers goes round no further than layer 11 says.

func TestGreatNumbers(t *testing.T) {
	c := drawn("C(A A)", to(1, 2))
	c.States[1].Exit = []api.Act{assign(0, "a+1"), log("a")}
	c.States[2].Entry = []api.Act{assign(0, "a-1"), log("a")}
	one := planted(t, c)
	checkStep(t, one, standing(one, set(0, 1)).with(math.MaxInt64, 0, 0), []int{0},
		standing(one, set(0, 2)).with(math.MaxInt64, 0, 0).logs(math.MinInt64, math.MaxInt64))
}

// What a step tells hangs on no Guard, nor on an Event: layer 10 asked for these.

func TestGuardsAreNotAsked(t *testing.T) {
	one, two := to(1, 2), to(1, 3)
	one.Guard, two.Guard = "1/0==1", "a==1"
	two.Event = 0
	c := loud(drawn("C(A A A)", one, two))
	tr := planted(t, c)
	checkStep(t, tr, standing(tr, set(0, 1)), []int{0}, standing(tr, set(0, 2)).happens(201, 300, 102))
	checkStep(t, tr, standing(tr, set(0, 1)), []int{1}, standing(tr, set(0, 3)).happens(201, 301, 103))
	if !strings.Contains(c.Trans[0].Guard, "/0") {
		t.Error("the Guard is gone")
	}
}
