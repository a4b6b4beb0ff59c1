package codec_test

import (
	"bytes"
	"math"
	"slices"
	"strings"
	"testing"

	"spinet/api"
	"spinet/chart"
)

// head is the bytes of smallest behind the three first ones, up to state 1's
// Entry, which begins at start.
const (
	head  = " 2 0 1 1 0 0  1 1 0 "
	start = 12
)

// samples are charts that faults are put into.
func samples() []api.Chart { return []api.Chart{smallest(), kinds(), regions()} }

// P6.2: no bytes at all.

func TestNoBytes(t *testing.T) {
	checkFault(t, nil, 0, api.ErrForm)
	checkFault(t, []byte{}, 0, api.ErrForm)
	checkFault(t, make([]byte, 20)[:0], 0, api.ErrForm)
}

// Bytes that end early, at each byte: At the byte where the number begins that
// isn't all there; of a text, where its bytes begin, behind how many they are.

func TestEndsEarly(t *testing.T) {
	for _, c := range append(samples(), withTexts(200)) {
		l := pieces(c)
		b, at := written(l), starts(l)
		for size := range b {
			broken := 0
			for at[broken+1] <= size {
				broken++
			}
			checkFault(t, b[:size], at[broken], api.ErrForm)
		}
	}
}

// withTexts is a chart with texts of so many bytes, at each place that has one.
func withTexts(n int) api.Chart {
	c := smallest()
	act := func() []api.Act { return []api.Act{{Kind: api.Log, Expr: "7" + strings.Repeat(" ", n-1)}} }
	c.States[1].Entry, c.States[1].Exit = act(), act()
	c.Trans = []api.Trans{{Source: 1, Guard: "true" + strings.Repeat(" ", n-4), Acts: act()}}
	return c
}

func TestEndsEarlyByHand(t *testing.T) {
	for _, one := range []struct {
		b  string
		at int
	}{
		{"128", 0}, {"255 255", 0}, {"0", 1}, {"0 130", 1}, {"0 2", 2}, {"0 2 0", 3}, {"0 2 0  2", 4}, {"0 2 0  2 0", 5}, {"0 2 0  2 0 1", 6}, {"0 2 0  2 0 1 130", 6},
		{"0 2 0" + head, start}, {"0 2 0" + head + "0", start + 1},
		{"0 2 0" + head + "1", start + 1}, {"0 2 0" + head + "1 5", start + 2}, {"0 2 0" + head + "1 5 0", start + 3}, {"0 2 0" + head + "1 5 0 0", start + 4},
		{"0 2 0" + head + "1 5 0 0 3", start + 5}, {"0 2 0" + head + "1 5 0 0 3 '1'", start + 5}, {"0 2 0" + head + "1 5 0 0 3 '1+'", start + 5}, {"0 2 0" + head + "1 5 0 0 3 '1+1'", start + 8},
		{"0 2 0" + head + "1 5 0 0 200", start + 4}, {"0 2 0" + head + "1 5 0 0 200 1", start + 6}, {"0 2 0" + head + "1 5 0 0 200 1 '" + strings.Repeat("1", 199), start + 6},
		{"0 2 1" + head + "0 0", start + 2}, {"0 2 1" + head + "0 0 1 0 4", start + 5}, {"0 2 1" + head + "0 0 1 0 4 'tru'", start + 5}, {"0 2 1" + head + "0 0 1 0 4 'true'", start + 9},
		{"0 2 1" + head + "0 0 1 0 0 0", start + 6}, {"0 2 1" + head + "0 0 1 0 0 0 1", start + 7}, {"0 2 1" + head + "0 0 1 0 0 0 128", start + 6},
	} {
		checkFault(t, byHand(t, one.b), one.at, api.ErrForm)
	}
}

// fault is bytes in the place of a number's, with their error.
type fault struct {
	b    []byte
	code api.Code
}

// faults are such as there are for a number at its place.
func faults(p piece) []fault {
	var l []fault
	for _, extra := range []int{1, 2, 3, 4, 5, 8, 9, 10, 20} {
		l = append(l, fault{longer(number(uint64(p.n)), extra), api.ErrForm})
		l = append(l, fault{longer(number(uint64(p.most)), extra), api.ErrForm})
	}
	n := uint64(p.n)
	for _, great := range []uint64{1 << 31, 1<<31 + n, 1<<32 - 1, 1 << 32, 1<<32 + n, 1<<35 + n, 1<<42 + n, 1<<63 - 1, 1<<63 + n, math.MaxUint64} {
		l = append(l, fault{number(great), api.ErrForm})
	}
	for _, size := range []int{9, 10, 11, 15} { // n, and a bit that is beyond 63
		b := longer(number(n), size)
		b[len(b)-1] = 2
		l = append(l, fault{b, api.ErrForm})
	}
	if p.most < math.MaxInt32 {
		for _, large := range []int{p.most + 1, p.most + 2, 201, 16383, 16384, 1<<28 + p.n, math.MaxInt32} {
			l = append(l, fault{number(uint64(large)), p.above})
		}
	}
	return l
}

// longer is the same number with more bytes than it takes.
func longer(b []byte, extra int) []byte {
	b = slices.Clone(b)
	for range extra {
		b[len(b)-1] |= 128
		b = append(b, 0)
	}
	return b
}

// P6.2, at each place where a number stands: with more bytes than it takes, above
// 2^31 - 1, or, where it may not be so great, greater: whether the chart's other
// bytes follow, or none, or others.

func TestEachNumber(t *testing.T) {
	for _, c := range append(samples(), withTexts(200)) {
		l := pieces(c)
		b, at := written(l), starts(l)
		for i, p := range l {
			if p.isText {
				continue
			}
			for _, f := range faults(p) {
				ahead := slices.Concat(b[:at[i]], f.b)
				for _, behind := range [][]byte{b[at[i+1]:], nil, {0}, {255}, bytes.Repeat([]byte{255}, 30)} {
					checkFault(t, slices.Concat(ahead, behind), at[i], f.code)
				}
			}
		}
	}
}

// The edges of numbers, by hand: at Vars, which Get takes to be any number; at how
// many states there are; and at the first state's Parent.

func TestEdgesOfNumbers(t *testing.T) {
	sizes := []string{"127", "128 1", "255 127", "128 128 1", "255 255 127", "128 128 128 1", "255 255 255 127", "128 128 128 128 1", "255 255 255 255 7"}
	for _, n := range sizes {
		checkError(t, byHand(t, n, "2 0", head, "0 0"), api.ErrLarge)
		checkFault(t, byHand(t, "0", n, "0", head, "0 0"), 1, api.ErrLarge)
		checkFault(t, byHand(t, "0 2", n, head, "0 0"), 2, api.ErrLarge)
		checkFault(t, byHand(t, "0 2 0  2", n, "1 1 0 0  1 1 0 0 0"), 0, api.ErrArg)
		checkFault(t, byHand(t, "0 2 0  2 0", n, "1 0 0  1 1 0 0 0"), 5, api.ErrLarge)
	}
	noNumbers := []string{
		"128 0", "129 0", "255 0", "128 128 0", "255 255 0", "128 128 128 128 0", "255 255 255 255 0", "128 128 128 128 128 0", // more than it takes
		"128 128 128 128 8", "129 128 128 128 8", "255 255 255 255 15", "128 128 128 128 16", "255 255 255 255 127", "128 128 128 128 128 1", // above
	}
	for _, n := range noNumbers {
		checkFault(t, byHand(t, n, "2 0", head, "0 0"), 0, api.ErrForm)
		checkFault(t, byHand(t, "0", n, "0", head, "0 0"), 1, api.ErrForm)
		checkFault(t, byHand(t, "0 2", n, head, "0 0"), 2, api.ErrForm)
		checkFault(t, byHand(t, "0 2 0  2", n, "1 1 0 0  1 1 0 0 0"), 4, api.ErrForm)
		checkFault(t, byHand(t, "0 2 0  2 0", n, "1 0 0  1 1 0 0 0"), 5, api.ErrForm)
	}
	checkGet(t, byHand(t, "0 2 0", head, "0 0"), smallest())
}

// Internal is 0 or 1.

func TestInternalAboveOne(t *testing.T) {
	for _, n := range []string{"2", "3", "64", "127", "128 1", "129 1", "255 127", "128 128 1", "255 255 255 255 7", "128 128 128 128 8", "128 0", "129 0", "128", "255 255"} {
		checkFault(t, byHand(t, "0 2 1", head, "0 0  1 0 0 0", n), start+6, api.ErrForm)
		checkFault(t, byHand(t, "0 2 2", head, "0 0  1 0 0 0 1 0  1 0 0 1 1", n), start+13, api.ErrForm)
		if n != "128" && n != "255 255" {
			checkFault(t, byHand(t, "0 2 1", head, "0 0  1 0 0 0", n, "0"), start+6, api.ErrForm)
		}
	}
}

// How many there may be at most of each: one more, At where it is told, by the
// chart's own bytes, which Put refuses, too.

func checkMost(t *testing.T, c api.Chart, at int) {
	t.Helper()
	checkFault(t, written(pieces(c)), at, api.ErrLarge)
	checkNoPut(t, c, chart.Check(c))
}

func TestHowManyStatesAndTransitions(t *testing.T) {
	for n := 2; n <= 24; n++ {
		c := smallest()
		c.States = append(c.States, slices.Repeat([]api.State{{Kind: api.Atomic}}, n-2)...)
		checkChart(t, c)
	}
	for _, n := range []int{25, 26, 127, 128, 300} {
		c := smallest()
		c.States = append(c.States, slices.Repeat([]api.State{{Kind: api.Atomic}}, n-2)...)
		checkMost(t, c, 1)
		c.Trans = make([]api.Trans, 41)
		checkMost(t, c, 1)
	}
	for n := range 41 {
		c := smallest()
		c.Trans = slices.Repeat([]api.Trans{{Source: 1}}, n)
		if !checkChart(t, c) {
			t.Errorf("%d transitions may not be", n)
		}
	}
	for _, n := range []int{41, 42, 127, 128, 300} {
		c := smallest()
		c.Trans = slices.Repeat([]api.Trans{{Source: 1}}, n)
		checkMost(t, c, 2)
	}
}

func TestHowManyInitial(t *testing.T) {
	for n := range 4 {
		c := smallest()
		c.States[0].Initial = slices.Repeat([]int{1}, n)
		want := error(&api.Spot{At: 0, Err: api.ErrTarget})
		if n == 1 {
			want = nil
		}
		checkTold(t, c, want)
		c = smallest()
		c.States[1].Initial = slices.Repeat([]int{1}, n)
		want = &api.Spot{At: 1, Err: api.ErrTarget}
		if n == 0 {
			want = nil
		}
		checkTold(t, c, want)
	}
	for _, n := range []int{4, 5, 127, 128, 300} {
		c := smallest()
		c.States[0].Initial = slices.Repeat([]int{1}, n)
		checkMost(t, c, 5)
		c = smallest()
		c.States[1].Initial = slices.Repeat([]int{1}, n)
		checkMost(t, c, 11)
	}
}

// checkTold asks both calls, of a chart of which there isn't too much of
// anything, for that error, or none.
func checkTold(t *testing.T, c api.Chart, want error) {
	t.Helper()
	if err := chart.Check(c); !sameError(err, want) {
		t.Errorf("Check(%v): %v, want %v", c, err, want)
	}
	checkChart(t, c)
}

func TestHowManyTargets(t *testing.T) {
	c := api.Chart{States: []api.State{{Kind: api.Compound, Parent: -1, Initial: []int{1}}, {Kind: api.Parallel}}}
	for range 20 {
		c.States = append(c.States, api.State{Kind: api.Atomic, Parent: 1})
	}
	ahead := len(written(pieces(c)))
	targets := []int{2, 3, 4, 5, 6, 7, 8, 9, 10, 11, 12, 13, 14, 15, 16, 17, 18, 19, 20, 21}
	for n := range targets {
		c.Trans = []api.Trans{{Source: 2, Targets: targets[:n]}}
		if n <= 3 {
			checkTold(t, c, nil)
		} else {
			checkMost(t, c, ahead+3)
		}
	}
}

func TestHowManyActs(t *testing.T) {
	for place := range 3 {
		for _, n := range []int{0, 1, 2, 3, 4, 5, 6, 7, 127, 128, 300} {
			c := smallest()
			c.Trans = []api.Trans{{Source: 1}}
			*actsAt(&c, place) = slices.Repeat([]api.Act{{Kind: api.Raise, N: 1}}, n)
			if n <= 5 {
				checkTold(t, c, nil)
			} else {
				checkMost(t, c, []int{start, start + 1, start + 7}[place])
			}
		}
	}
}

func TestHowLongTextsAre(t *testing.T) {
	for _, n := range []int{4, 127, 128, 199, 200} {
		checkTold(t, withTexts(n), nil)
	}
	for _, n := range []int{201, 202, 255, 256, 16383, 16384, 20000} {
		long := withTexts(n)
		for place := range 3 {
			c := withTexts(4)
			*actsAt(&c, place) = *actsAt(&long, place)
			checkMost(t, c, []int{16, 25, 43}[place])
		}
		c := withTexts(4)
		c.Trans[0].Guard = long.Trans[0].Guard
		checkMost(t, c, 32)
	}
}

// R1: of several faults the first one, whatever is behind it: another one, an
// end, more bytes, and a chart that may not be.

func TestFirstFault(t *testing.T) {
	for _, c := range samples() {
		c.Vars = 9
		l := pieces(c)
		b, at := written(l), starts(l)
		for i, p := range l {
			if p.isText {
				continue
			}
			first := faults(p)
			for k := i + 1; k < len(l); k++ {
				f := first[k%len(first)]
				ahead := slices.Concat(b[:at[i]], f.b, b[at[i+1]:at[k]])
				checkFault(t, ahead, at[i], f.code)
				if !l[k].isText {
					second := faults(l[k])
					checkFault(t, slices.Concat(ahead, second[i%len(second)].b, b[at[k+1]:]), at[i], f.code)
				}
			}
			for _, f := range first {
				checkFault(t, slices.Concat(b[:at[i]], f.b, b[at[i+1]:], []byte{0, 1, 2}), at[i], f.code)
			}
		}
	}
}

// A text that isn't all there, behind and ahead of others.

func TestFirstFaultOfTexts(t *testing.T) {
	acts := "1 5 0 0 9 '12345678"
	checkFault(t, byHand(t, "0 2 0", head, acts), start+5, api.ErrForm)
	checkFault(t, byHand(t, "0 2 0", head, "6", acts), start, api.ErrLarge)
	checkFault(t, byHand(t, "0 2 0", head, "129 0", acts), start, api.ErrForm)
	checkFault(t, byHand(t, "0 2 0", head, "1 5 0 0 201 1 '12345678"), start+4, api.ErrLarge)
	checkFault(t, byHand(t, "0 2 0", head, "1 5 0 0 137 0 '12345678"), start+4, api.ErrForm)
	checkFault(t, byHand(t, "0 2 0", head, "1 5 0 0 16 '1' 0", acts), start+5, api.ErrForm)
	checkFault(t, byHand(t, "9 2 0", head, "1 128 0 0 9 '12345678"), start+1, api.ErrForm)
}

// P6.2: more bytes behind the chart's: At the byte behind these; and ahead of
// what chart.Check tells.

func TestMoreBytes(t *testing.T) {
	bad := smallest()
	bad.Vars = 9
	for _, c := range append(samples(), withTexts(200), bad, api.Chart{}, api.Chart{States: make([]api.State, 3)}) {
		b := written(pieces(c))
		for _, more := range [][]byte{{0}, {1}, {128}, {255}, {0, 0}, {128, 0}, b, make([]byte, 1000)} {
			checkFault(t, append(slices.Clip(b), more...), len(b), api.ErrForm)
		}
	}
	checkFault(t, byHand(t, "0 2 0", head, "0 0  0"), 14, api.ErrForm)
	checkFault(t, byHand(t, "0 0 0  0"), 3, api.ErrForm)
}

// P6.1, P6.2: charts that may not be: the error is chart.Check's, as it tells it.

func TestChartsThatMayNotBe(t *testing.T) {
	for want, change := range map[api.Spot]func(*api.Chart){
		{At: 0, Err: api.ErrKind}:    func(c *api.Chart) { c.States[0].Kind = api.Parallel },
		{At: 0, Err: api.ErrArg}:     func(c *api.Chart) { c.States[0].Parent = 0 },
		{At: 0, Err: api.ErrTarget}:  func(c *api.Chart) { c.States[0].Initial = nil },
		{At: 1, Err: api.ErrKind}:    func(c *api.Chart) { c.States[1].Kind = 7 },
		{At: 2, Err: api.ErrTarget}:  func(c *api.Chart) { c.States[2].Initial = []int{6} },
		{At: 3, Err: api.ErrKind}:    func(c *api.Chart) { c.States[3].Kind = 0 },
		{At: 5, Err: api.ErrArg}:     func(c *api.Chart) { c.States[5].Exit = []api.Act{{Kind: api.Log, Expr: "c"}} },
		{At: 8, Err: api.ErrArg}:     func(c *api.Chart) { c.States[8].Parent = 2 },
		{At: 8, Err: api.ErrNone}:    func(c *api.Chart) { c.States[8].Kind = api.Compound },
		{At: 11, Err: api.ErrArg}:    func(c *api.Chart) { c.States[11].Entry = []api.Act{{Kind: api.Raise, N: 1}} },
		{At: 13, Err: api.ErrKind}:   func(c *api.Chart) { c.Trans[0].Source = 12 },
		{At: 13, Err: api.ErrArg}:    func(c *api.Chart) { c.Trans[0].Event = 1003 },
		{At: 14, Err: api.ErrTarget}: func(c *api.Chart) { c.Trans[1].Targets = []int{1, 1} },
		{At: 14, Err: api.ErrType}:   func(c *api.Chart) { c.Trans[1].Guard = "a" },
		{At: 15, Err: api.ErrArg}:    func(c *api.Chart) { c.Trans[2].Acts[0].Kind = 6 },
		{At: 16, Err: api.ErrArg}:    func(c *api.Chart) { c.Trans[3].Acts = []api.Act{{Kind: api.Log, Expr: "\xff"}} },
	} {
		c := kinds()
		change(&c)
		checkTold(t, c, &want)
	}
	for _, c := range []api.Chart{{}, {Vars: 3}, {Trans: make([]api.Trans, 2)}, {Vars: 9, States: smallest().States}, {Vars: math.MaxInt32, States: kinds().States}} {
		checkTold(t, c, api.ErrLarge)
	}
}

// Numbers that no bytes have: Put refuses them, as chart.Check tells it.

func TestNumbersThatCantBePut(t *testing.T) {
	for _, n := range []int{math.MinInt, math.MinInt32, -129, -128, -2, -1, 1 << 31, math.MaxInt} {
		for at, p := range pieces(kinds()) {
			if !p.isText && !p.isCount() && p.most > 1 {
				c := changed(kinds(), at, n)
				if err := chart.Check(c); err == nil {
					t.Errorf("%d at %d may be", n, at)
				} else {
					checkNoPut(t, c, err)
				}
			}
		}
	}
}

// P1: rows that go on and on.

func TestLongRows(t *testing.T) {
	for _, one := range []byte{0, 1, 2, 5, 127, 128, 129, 255} {
		b := bytes.Repeat([]byte{one}, 1<<20)
		if _, err := taken(b); err == nil {
			t.Fatalf("%d on and on may be", one)
		}
		checkByReading(t, b)
	}
	for _, sizes := range []string{"0 24 40", "8 24 40"} {
		b := byHand(t, sizes)
		checkFault(t, append(b, bytes.Repeat([]byte{1, 1, 0, 0, 0}, 24)...), 3+24*5, api.ErrForm)
	}
	long := strings.Repeat("128 ", 1000)
	checkFault(t, byHand(t, long), 0, api.ErrForm)
	checkFault(t, byHand(t, "0 2 0", head, long), start, api.ErrForm)
	checkFault(t, byHand(t, "0 2 0", head, "0 5", long), start+2, api.ErrForm)
}
