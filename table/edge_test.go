package table_test

import (
	"strings"
	"testing"

	"spinet/api"
	"spinet/table"
)

// The longest texts that may be: of MaxText bytes, and of MaxToks tokens.
var (
	padded    = "a==a" + strings.Repeat(" ", 196)
	bracketed = strings.Repeat("(", 98) + "a<b" + strings.Repeat(")", 98) + " "
	summed    = "-a" + strings.Repeat("+a", 48) + "<b"
	notted    = strings.Repeat("not ", 49) + "a<b" + " "
)

// greatest is a chart with as much of each thing as there may be: a Parallel with
// 22 children.
func greatest() api.Chart {
	c := drawn(wide())
	c.Vars = api.MaxVars
	act := api.Act{Kind: api.Send, N: api.MaxEvent, M: api.MaxDelay, Expr: strings.Repeat("(", 99) + "h" + strings.Repeat(")", 99) + " "}
	for s := range c.States {
		for range api.MaxActs {
			c.States[s].Entry = append(c.States[s].Entry, act)
			c.States[s].Exit = append(c.States[s].Exit, act)
		}
	}
	for i := range api.MaxTrans {
		c.Trans = append(c.Trans, api.Trans{
			Source: 1 + i%23, Event: api.EventDone + 23, Guard: []string{padded, bracketed, summed, notted}[i%4],
			Targets: []int{2, 13, 23}, Internal: true, Acts: c.States[1].Entry,
		})
	}
	return c
}

func TestGreatestChart(t *testing.T) {
	one := made(t, greatest())
	for s := 1; s < 24; s++ {
		if s+22 < 40 {
			checkFrom(t, one, s, s-1, s+22)
		} else {
			checkFrom(t, one, s, s-1)
		}
	}
	checkFrom(t, one, 0)
	for i := range 40 {
		holds := i%4 < 2 // -1+48 is not below 2
		checkGuard(t, one, i, []int64{1, 2, 0, 0, 0, 0, 0, 0}, holds, false)
		checkGuard(t, one, i, []int64{1, 2}, holds, false)
		checkGuard(t, one, i, []int64{1}, i%4 == 0, i%4 > 0)
		checkGuard(t, one, i, nil, false, true)
	}
	checkRows(t, one, wideRows())
}

func wideRows() []row {
	rows := []row{{nil, upTo(1, 23), []int{1}, upTo(0, 23)}, {[]int{0}, upTo(2, 23), upTo(2, 23), upTo(1, 23)}}
	for s := 2; s < 24; s++ {
		rows = append(rows, row{[]int{0, 1}, nil, nil, []int{s}})
	}
	return rows
}

// Texts that only just may be, and ones with a byte or a token more, which are
// no chart's.

func TestLongGuards(t *testing.T) {
	for _, guard := range []string{padded, bracketed, notted} {
		if len(guard) != api.MaxText {
			t.Errorf("%q has %d bytes", guard, len(guard))
		}
	}
	checkEach(t, padded, []int64{1}, true, false)
	checkEach(t, padded, nil, false, true)
	checkEach(t, bracketed, []int64{1, 2}, true, false)
	checkEach(t, bracketed, []int64{2, 2}, false, false)
	checkEach(t, bracketed, []int64{2}, false, true)
	checkEach(t, notted, []int64{1, 2}, false, false)
	checkEach(t, notted, []int64{2, 2}, true, false)
	checkEach(t, summed, []int64{1, 48}, true, false) // 48 - 1 < 48
	checkEach(t, summed, []int64{1, 47}, false, false)
	checkEach(t, summed, []int64{1}, false, true)
	for _, guard := range []string{
		padded + " ", " " + padded, bracketed + " ", notted + " ", "-" + summed, summed + "+a", "not " + summed + "+a",
	} {
		checkNoTable(t, drawn(smallest, from(1), when(1, guard)), &api.Spot{At: 3, Err: api.ErrType})
	}
}

// As many transitions as there may be, of one state, and of several by turns.

func TestMostTransitions(t *testing.T) {
	var all, byTurns []api.Trans
	for i := range 40 {
		all = append(all, from(5))
		byTurns = append(byTurns, when(1+i%3, "a<b"))
	}
	one := made(t, drawn(flat(), all...))
	for s := range 24 {
		if s == 5 {
			checkFrom(t, one, s, upTo(0, 39)...)
		} else {
			checkFrom(t, one, s)
		}
	}
	one = made(t, drawn(flat(), byTurns...))
	var want [4][]int
	for i := range 40 {
		want[1+i%3] = append(want[1+i%3], i)
	}
	for s, l := range want {
		checkFrom(t, one, s, l...)
	}
}

// The first state and the last one have transitions as others have: the first
// none.

func TestFirstAndLastState(t *testing.T) {
	c := drawn(chain(), from(23), when(1, "a<b"), from(23))
	one := made(t, c)
	checkFrom(t, one, 0)
	checkFrom(t, one, 1, 1)
	checkFrom(t, one, 22)
	checkFrom(t, one, 23, 0, 2)
	checkFrom(t, one, 24)
	checkGuard(t, one, 0, nil, true, false)
	checkGuard(t, one, 1, []int64{1, 2}, true, false)
	checkGuard(t, one, 2, nil, true, false)
	checkGuard(t, one, 3, nil, false, false)
}

// The greatest charts of other shapes: 24 states, each in the one ahead of it; of
// these each second one a Parallel; Parallels with two children; and a first state
// with 23 children.

func TestChains(t *testing.T) {
	for _, s := range []string{chain(), mixed()} {
		var rows []row
		for s := range 24 {
			rows = append(rows, row{up: upTo(0, s-1), below: upTo(s+1, 23), kids: upTo(s+1, min(s+1, 23)), entered: upTo(s, 23)})
		}
		checkRows(t, made(t, drawn(s)), rows)
	}
	for first := 1; first < 24; first++ {
		one := made(t, drawn("C"+numbers[first]+chain()[1:]))
		checkDefault(t, one, 0, upTo(0, 23)...)
	}
}

var numbers = strings.Fields("0 1 2 3 4 5 6 7 8 9 10 11 12 13 14 15 16 17 18 19 20 21 22 23")

func TestStairs(t *testing.T) {
	var rows []row
	for s := range 24 {
		var odd []int
		for p := 1; p < s; p += 2 {
			odd = append(odd, p)
		}
		one := row{up: append([]int{0}, odd...), entered: []int{s}}
		if s%2 == 1 && s < 23 {
			one.below, one.kids, one.entered = upTo(s+1, 23), []int{s + 1, s + 2}, upTo(s, 23)
		}
		rows = append(rows, one)
	}
	rows[0] = row{nil, upTo(1, 23), []int{1}, upTo(0, 23)}
	for _, first := range numbers[1:] {
		checkRows(t, made(t, drawn("C"+first+stairs()[1:])), rows)
	}
}

func TestFirstStateWithMostChildren(t *testing.T) {
	for first := 1; first < 24; first++ {
		rows := []row{{nil, upTo(1, 23), upTo(1, 23), []int{0, first}}}
		for s := 1; s < 24; s++ {
			rows = append(rows, row{[]int{0}, nil, nil, []int{s}})
		}
		checkRows(t, made(t, drawn("C"+numbers[first]+flat()[1:])), rows)
	}
}

func TestParallelWithMostChildren(t *testing.T) {
	for _, first := range numbers[1:] {
		checkRows(t, made(t, drawn("C"+first+wide()[1:])), wideRows())
	}
}

// The smallest charts: without variables, without transitions, with a Final alone.

func TestSmallestCharts(t *testing.T) {
	for _, kind := range []int{api.Atomic, api.Final} {
		c := api.Chart{States: []api.State{{Kind: api.Compound, Parent: -1, Initial: []int{1}}, {Kind: kind}}}
		one := made(t, c)
		checkRows(t, one, []row{{nil, []int{1}, []int{1}, []int{0, 1}}, {[]int{0}, nil, nil, []int{1}}})
		checkFrom(t, one, 0)
		checkFrom(t, one, 1)
		checkGuard(t, one, 0, nil, false, false)
		checkChart(t, one, c)
	}
	_, err := table.New(api.Chart{States: []api.State{{Kind: api.Compound, Parent: -1, Initial: []int{1}}}})
	if !sameError(err, &api.Spot{At: 0, Err: api.ErrNone}) {
		t.Errorf("of a first state alone: %v", err)
	}
}
