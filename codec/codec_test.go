package codec_test

import (
	"bytes"
	"reflect"
	"slices"
	"strconv"
	"strings"
	"testing"

	"spinet/api"
	"spinet/chart"
	"spinet/codec"
)

// byHand is bytes that are written as words: each a byte's number, or a text
// between two '.
func byHand(t testing.TB, rows ...string) []byte {
	t.Helper()
	var b []byte
	for _, w := range strings.Fields(strings.Join(rows, " ")) {
		if text, ok := strings.CutPrefix(w, "'"); ok {
			b = append(b, strings.TrimSuffix(text, "'")...)
			continue
		}
		n, err := strconv.ParseUint(w, 10, 8)
		if err != nil {
			t.Fatalf("no byte: %q", w)
		}
		b = append(b, byte(n))
	}
	return b
}

// plain is a chart with nil for each list of no elements: both may be told.
func plain(c api.Chart) api.Chart {
	c = api.Chart{Vars: c.Vars, States: copied(c.States), Trans: copied(c.Trans)}
	for i, s := range c.States {
		c.States[i].Initial, c.States[i].Entry, c.States[i].Exit = copied(s.Initial), copied(s.Entry), copied(s.Exit)
	}
	for i, one := range c.Trans {
		c.Trans[i].Targets, c.Trans[i].Acts = copied(one.Targets), copied(one.Acts)
	}
	return c
}

func copied[T any](l []T) []T { return append([]T(nil), l...) }

func same(a, b api.Chart) bool { return reflect.DeepEqual(plain(a), plain(b)) }

// sameError tells whether two errors are both none, the same Code itself, or
// Spots of the same place and Code.
func sameError(a, b error) bool {
	x, isSpot := a.(*api.Spot)
	y, ok := b.(*api.Spot)
	if isSpot || ok {
		return isSpot && ok && *x == *y
	}
	return a == b
}

// shown is what a test shows of bytes.
func shown(b []byte) []byte { return b[:min(len(b), 1000)] }

// checkPut asks for these bytes.
func checkPut(t *testing.T, c api.Chart, want []byte) {
	t.Helper()
	if b, err := codec.Put(c); err != nil || !bytes.Equal(b, want) {
		t.Errorf("Put(%v) = %v, %v, want %v", c, b, err, want)
	}
}

// checkGet asks for this chart.
func checkGet(t *testing.T, b []byte, want api.Chart) {
	t.Helper()
	if c, err := codec.Get(b); err != nil || !same(c, want) {
		t.Errorf("Get(%v) = %v, %v, want %v", shown(b), c, err, want)
	}
}

// checkBoth asks that these bytes are the chart's, and the chart that of these
// bytes.
func checkBoth(t *testing.T, c api.Chart, b []byte) {
	t.Helper()
	checkPut(t, c, b)
	checkGet(t, b, c)
}

// checkFault asks for a Spot, with that place, and for no chart.
func checkFault(t *testing.T, b []byte, at int, want api.Code) {
	t.Helper()
	checkError(t, b, &api.Spot{At: at, Err: want})
}

// checkError asks for that error, and for no chart.
func checkError(t *testing.T, b []byte, want error) {
	t.Helper()
	c, err := codec.Get(b)
	if !sameError(err, want) {
		t.Errorf("Get(%v): %v, want %v", shown(b), err, want)
	}
	if !reflect.DeepEqual(c, api.Chart{}) {
		t.Errorf("Get(%v): %v beside an error", shown(b), c)
	}
}

// checkNoPut asks for that error, and for no bytes.
func checkNoPut(t *testing.T, c api.Chart, want error) {
	t.Helper()
	b, err := codec.Put(c)
	if !sameError(err, want) || b != nil {
		t.Errorf("Put(%v) = %v, %v, want none, and %v", c, b, err, want)
	}
}

// smallest has no more than it must.
func smallest() api.Chart {
	return api.Chart{States: []api.State{
		{Kind: api.Compound, Parent: -1, Initial: []int{1}},
		{Kind: api.Atomic, Parent: 0},
	}}
}

// kinds has states of each Kind, nested, and actions of each Kind, at each place
// that has actions.
func kinds() api.Chart {
	return api.Chart{
		Vars: 2,
		States: []api.State{
			{Kind: api.Compound, Parent: -1, Initial: []int{1}},
			{Kind: api.Atomic, Parent: 0,
				Entry: []api.Act{{Kind: api.Assign, N: 1, Expr: "a+1"}},
				Exit:  []api.Act{{Kind: api.Log, Expr: "a"}}},
			{Kind: api.Compound, Parent: 0, Initial: []int{4},
				Exit: []api.Act{{Kind: api.Raise, N: 127}, {Kind: api.Cancel, N: 128}}},
			{Kind: api.Compound, Parent: 2, Initial: []int{4}},
			{Kind: api.Atomic, Parent: 3},
			{Kind: api.Final, Parent: 2,
				Entry: []api.Act{{Kind: api.Send, N: 1000, M: 999, Expr: "b"}}},
			{Kind: api.Deep, Parent: 2, Initial: []int{4}},
			{Kind: api.Parallel, Parent: 0},
			{Kind: api.Atomic, Parent: 7},
			{Kind: api.Parallel, Parent: 7},
			{Kind: api.Atomic, Parent: 9},
			{Kind: api.Shallow, Parent: 7, Initial: []int{9}},
			{Kind: api.Final, Parent: 0},
		},
		Trans: []api.Trans{
			{Source: 1, Event: 127, Targets: []int{2}},
			{Source: 2, Event: api.EventDone + 2, Guard: "a<2", Targets: []int{11},
				Acts: []api.Act{{Kind: api.Assign, Expr: "0"}, {Kind: api.Send, N: 1, Expr: "0-1"}, {Kind: api.Log, Expr: "b"}}},
			{Source: 7, Internal: true, Acts: []api.Act{{Kind: api.Cancel, N: 1}}},
			{Source: 4, Event: api.EventError},
		},
	}
}

func kindsBytes(t testing.TB) []byte {
	return byHand(t,
		"2 13 4",
		"2 0  1 1  0  0",
		"1 1  0  1 1 1 0 3 'a+1'  1 5 0 0 1 'a'",
		"2 1  1 4  0  2 2 127 0 0 4 128 1 0 0",
		"2 3  1 4  0  0",
		"1 4  0  0  0",
		"4 3  0  1 3 232 7 231 7 1 'b'  0",
		"6 3  1 4  0  0",
		"3 1  0  0  0",
		"1 8  0  0  0",
		"3 8  0  0  0",
		"1 10  0  0  0",
		"5 8  1 9  0  0",
		"4 1  0  0  0",
		"1 127  0  1 2  0  0",
		"2 210 15  3 'a<2'  1 11  0  3  1 0 0 1 '0'  3 1 0 3 '0-1'  5 0 0 1 'b'",
		"7 0  0  0  1  1 4 1 0 0",
		"4 233 7  0  0  0  0")
}

// regions has three regions, in which transitions have up to three Targets.
func regions() api.Chart {
	return api.Chart{
		Vars: 8,
		States: []api.State{
			{Kind: api.Compound, Parent: -1, Initial: []int{1}},
			{Kind: api.Parallel, Parent: 0},
			{Kind: api.Compound, Parent: 1, Initial: []int{3}},
			{Kind: api.Atomic, Parent: 2},
			{Kind: api.Atomic, Parent: 2},
			{Kind: api.Atomic, Parent: 1},
			{Kind: api.Compound, Parent: 1, Initial: []int{7}},
			{Kind: api.Final, Parent: 6},
		},
		Trans: []api.Trans{
			{Source: 1, Event: 128, Guard: "true", Internal: true},
			{Source: 3, Event: 1000, Targets: []int{4, 5}, Internal: true},
			{Source: 2, Event: api.EventComm, Guard: "h==1 or not false", Targets: []int{4, 5, 7}, Internal: true},
			{Source: 5, Guard: "a<b", Targets: []int{7, 3, 5}},
		},
	}
}

func regionsBytes(t testing.TB) []byte {
	guard := "h==1 or not false"
	b := byHand(t,
		"8 8 4",
		"2 0  1 1  0  0",
		"3 1  0  0  0",
		"2 2  1 3  0  0",
		"1 3  0  0  0",
		"1 3  0  0  0",
		"1 2  0  0  0",
		"2 2  1 7  0  0",
		"4 7  0  0  0",
		"1 128 1  4 'true'  0  1  0",
		"3 232 7  0  2 4 5  1  0",
		"2 234 7  17")
	b = append(b, guard...)
	return append(b, byHand(t,
		"3 4 5 7  1  0",
		"5 0  3 'a<b'  3 7 3 5  0  0")...)
}

// P6.1, P6.2: ordinary charts, with their bytes as the chapter's words tell
// them.

func TestWrittenByHand(t *testing.T) {
	checkBoth(t, smallest(), byHand(t, "0 2 0  2 0 1 1 0 0  1 1 0 0 0"))
	checkBoth(t, kinds(), kindsBytes(t))
	checkBoth(t, regions(), regionsBytes(t))
}

// Numbers from one byte to two, where a chart that may be has such: events and
// delays.

func TestNumbersOfTwoBytes(t *testing.T) {
	for n, want := range map[int]string{
		1: "1", 2: "2", 63: "63", 64: "64", 126: "126", 127: "127", 128: "128 1", 129: "129 1", 255: "255 1",
		256: "128 2", 257: "129 2", 383: "255 2", 384: "128 3", 511: "255 3", 512: "128 4", 999: "231 7", 1000: "232 7",
	} {
		c := smallest()
		c.Trans = []api.Trans{{Source: 1, Event: n, Acts: []api.Act{{Kind: api.Send, N: n, M: n, Expr: "0"}}}}
		checkBoth(t, c, byHand(t, "0 2 1  2 0 1 1 0 0  1 1 0 0 0  1", want, "0 0 0  1 3", want, want, "1 '0'"))
	}
	for n, want := range map[int]string{0: "0", api.EventError: "233 7", api.EventComm: "234 7", api.EventDone: "208 15", api.EventDone + 1: "209 15"} {
		c := smallest()
		c.Trans = []api.Trans{{Source: 1, Event: n}}
		checkBoth(t, c, byHand(t, "0 2 1  2 0 1 1 0 0  1 1 0 0 0  1", want, "0 0 0 0"))
	}
}

// The first state's Parent, -1, is the byte 0, and state 0 as a Parent the byte
// 1, and so on, up to the last one.

func TestParents(t *testing.T) {
	c := api.Chart{States: []api.State{{Kind: api.Compound, Parent: -1, Initial: []int{23}}}}
	b := byHand(t, "0 24 0  2 0 1 23 0 0")
	for s := 1; s < 24; s++ {
		kind := api.Parallel
		if s == 23 {
			kind = api.Atomic
		}
		c.States = append(c.States, api.State{Kind: kind, Parent: s - 1})
		b = append(b, byte(kind), byte(s), 0, 0, 0)
	}
	checkBoth(t, c, b)
	c.States[22].Parent, b[9+5*21+1] = 20, 21 // beside 21, and so in 20
	c.States[21].Kind, b[9+5*20] = api.Atomic, api.Atomic
	checkBoth(t, c, b)
}

// Internal is 1, or 0.

func TestInternal(t *testing.T) {
	c := smallest()
	c.Trans = []api.Trans{{Source: 1, Internal: true}, {Source: 1}, {Source: 1, Internal: true}}
	checkBoth(t, c, byHand(t, "0 2 3  2 0 1 1 0 0  1 1 0 0 0  1 0 0 0 1 0  1 0 0 0 0 0  1 0 0 0 1 0"))
}

// Each Kind of action stands at each place as at the others.

func TestActsAtEachPlace(t *testing.T) {
	acts := map[string]api.Act{
		"1 7 0 1 'h'":           {Kind: api.Assign, N: 7, Expr: "h"},
		"2 1 0 0":               {Kind: api.Raise, N: 1},
		"3 3 232 7 5 'a*b-c'":   {Kind: api.Send, N: 3, M: 1000, Expr: "a*b-c"},
		"3 232 7 128 1 3 '1/0'": {Kind: api.Send, N: 1000, M: 128, Expr: "1/0"},
		"4 255 1 0 0":           {Kind: api.Cancel, N: 255},
		"5 0 0 2 '-a'":          {Kind: api.Log, Expr: "-a"},
	}
	for want, a := range acts {
		for n := range 6 {
			l, row := slices.Repeat([]api.Act{a}, n), strconv.Itoa(n)+strings.Repeat(" "+want, n)
			for place := range 3 {
				c, rows := smallest(), [3]string{"0", "0", "0"}
				c.Vars, c.Trans = 8, []api.Trans{{Source: 1}}
				*actsAt(&c, place), rows[place] = l, row
				checkBoth(t, c, byHand(t, "8 2 1  2 0 1 1 0 0  1 1 0", rows[0], rows[1], "1 0 0 0 0", rows[2]))
			}
		}
	}
}

// actsAt are, of the places that have actions, those at one: state 1's Entry, its
// Exit, or the first transition's.
func actsAt(c *api.Chart, place int) *[]api.Act {
	return []*[]api.Act{&c.States[1].Entry, &c.States[1].Exit, &c.Trans[0].Acts}[place]
}

// Texts of each length, at each place that has one: a Guard, and an Expr.

func TestTexts(t *testing.T) {
	for _, n := range []int{1, 2, 3, 10, 126, 127, 128, 129, 199, 200} {
		size := byHand(t, strconv.Itoa(n))
		if n > 127 {
			size = byHand(t, strconv.Itoa(n), "1")
		}
		for place := range 3 {
			c := smallest()
			c.Trans = []api.Trans{{Source: 1}}
			expr := strings.Repeat(" ", n-1) + "7"
			*actsAt(&c, place) = []api.Act{{Kind: api.Log, Expr: expr}}
			ahead := []string{"1 5 0 0", "0 1 5 0 0", "0 0 1 0 0 0 0 1 5 0 0"}[place]
			behind := []string{"0 1 0 0 0 0 0", "1 0 0 0 0 0", ""}[place]
			b := append(byHand(t, "0 2 1  2 0 1 1 0 0  1 1 0", ahead), size...)
			checkBoth(t, c, slices.Concat(b, []byte(expr), byHand(t, behind)))
		}
		if n > 4 {
			c, guard := smallest(), "true"+strings.Repeat(" ", n-4)
			c.Trans = []api.Trans{{Source: 1, Guard: guard}}
			b := append(byHand(t, "0 2 1  2 0 1 1 0 0  1 1 0 0 0  1 0"), size...)
			checkBoth(t, c, slices.Concat(b, []byte(guard), byHand(t, "0 0 0")))
		}
	}
}

// full is a chart with as many of all as there may be, and texts as long as they
// may be.
func full() api.Chart {
	number, truth := strings.Repeat(" ", 198)+"-h", strings.Repeat(" ", 194)+"-h!=-g"
	acts := func() []api.Act {
		return []api.Act{
			{Kind: api.Assign, N: 7, Expr: number}, {Kind: api.Raise, N: 1000}, {Kind: api.Send, N: 1000, M: 1000, Expr: number},
			{Kind: api.Cancel, N: 1000}, {Kind: api.Log, Expr: number},
		}
	}
	c := api.Chart{Vars: 8, States: []api.State{
		{Kind: api.Compound, Parent: -1, Initial: []int{23}, Entry: acts(), Exit: acts()},
		{Kind: api.Parallel, Parent: 0, Entry: acts(), Exit: acts()},
	}}
	for s := 2; s < 23; s++ {
		c.States = append(c.States, api.State{Kind: api.Atomic, Parent: 1, Entry: acts(), Exit: acts()})
	}
	c.States = append(c.States, api.State{Kind: api.Final, Parent: 0, Entry: acts(), Exit: acts()})
	for range 40 {
		c.Trans = append(c.Trans, api.Trans{Source: 22, Event: api.EventDone + 23, Guard: truth, Targets: []int{20, 21, 22}, Internal: true, Acts: acts()})
	}
	return c
}

// P6.1, P6.2: as many of all as there may be.

func TestFull(t *testing.T) {
	b := written(pieces(full()))
	checkBoth(t, full(), b)
	if len(b) != fullSize() {
		t.Errorf("%d bytes, want %d", len(b), fullSize())
	}
}

// fullSize is how many bytes full has.
func fullSize() int {
	text := 2 + 200
	acts := 1 + (3 + text) + (4 + 1) + (5 + text) + (4 + 1) + (3 + text)
	states := 24*(2+1+2*acts) + 1
	trans := 40 * (1 + 2 + text + 4 + 1 + acts)
	return 3 + states + trans
}

// P6.4: what was put is got as it was, whether its lists of no elements are nil
// or empty; and what is got is put as those bytes.

func checkRound(t *testing.T, c api.Chart) {
	t.Helper()
	b, err := codec.Put(c)
	if err != nil {
		t.Fatalf("Put(%v): %v", c, err)
	}
	checkGet(t, b, c)
	got, err := codec.Get(b)
	if err != nil {
		t.Fatalf("Get(%v): %v", b, err)
	}
	if err := chart.Check(got); err != nil {
		t.Errorf("Get(%v) may not be: %v", b, err)
	}
	checkPut(t, got, b)
}

func TestRound(t *testing.T) {
	for _, c := range []api.Chart{smallest(), kinds(), regions(), full()} {
		checkRound(t, c)
		empty := plain(c)
		for s := range empty.States {
			one := &empty.States[s]
			one.Initial, one.Entry, one.Exit = filled(one.Initial), filled(one.Entry), filled(one.Exit)
		}
		for i := range empty.Trans {
			one := &empty.Trans[i]
			one.Targets, one.Acts = filled(one.Targets), filled(one.Acts)
		}
		empty.Trans = filled(empty.Trans)
		checkRound(t, empty)
		b, _ := codec.Put(c)
		checkPut(t, empty, b)
	}
}

// filled is a list that isn't nil.
func filled[T any](l []T) []T { return append([]T{}, l...) }
