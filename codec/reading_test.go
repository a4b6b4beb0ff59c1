package codec_test

import (
	"bytes"
	"encoding/binary"
	"math"
	"slices"
	"testing"

	"spinet/api"
	"spinet/chart"
	"spinet/codec"
)

// A second reading of the chapter: one walk tells a visitor of each number and
// each text of a chart, in the order in which they are written. One visitor
// lists them, one takes them from bytes, and one puts another number at a place.

// visitor is told of a number, with the greatest one that it may be and the
// error of a greater one, and of a text of n bytes.
type visitor interface {
	number(n *int, most int, above api.Code)
	text(s *string, n int)
}

func walk(c *api.Chart, v visitor) {
	states, trans := len(c.States), len(c.Trans)
	walkNumber(v, &c.Vars)
	v.number(&states, 24, api.ErrLarge)
	v.number(&trans, 40, api.ErrLarge)
	resize(&c.States, states)
	resize(&c.Trans, trans)
	for i := range c.States {
		walkState(v, &c.States[i])
	}
	for i := range c.Trans {
		walkTrans(v, &c.Trans[i])
	}
}

func walkState(v visitor, s *api.State) {
	walkNumber(v, &s.Kind)
	s.Parent++
	walkNumber(v, &s.Parent)
	s.Parent--
	walkRow(v, &s.Initial, 3, walkNumber)
	walkRow(v, &s.Entry, 5, walkAct)
	walkRow(v, &s.Exit, 5, walkAct)
}

func walkTrans(v visitor, one *api.Trans) {
	walkNumber(v, &one.Source)
	walkNumber(v, &one.Event)
	walkText(v, &one.Guard)
	walkRow(v, &one.Targets, 3, walkNumber)
	internal := 0
	if one.Internal {
		internal = 1
	}
	v.number(&internal, 1, api.ErrForm)
	one.Internal = internal == 1
	walkRow(v, &one.Acts, 5, walkAct)
}

func walkAct(v visitor, a *api.Act) {
	walkNumber(v, &a.Kind)
	walkNumber(v, &a.N)
	walkNumber(v, &a.M)
	walkText(v, &a.Expr)
}

func walkNumber(v visitor, n *int) { v.number(n, math.MaxInt32, api.ErrForm) }

func walkText(v visitor, s *string) {
	n := len(*s)
	v.number(&n, 200, api.ErrLarge)
	v.text(s, n)
}

func walkRow[T any](v visitor, l *[]T, most int, one func(visitor, *T)) {
	n := len(*l)
	v.number(&n, most, api.ErrLarge)
	resize(l, n)
	for i := range *l {
		one(v, &(*l)[i])
	}
}

func resize[T any](l *[]T, n int) {
	if len(*l) != n {
		*l = make([]T, n)
	}
}

// piece is a number with what it may be, or a text.
type piece struct {
	isText bool
	n      int
	most   int
	above  api.Code
	s      string
}

func (p piece) bytes() []byte {
	if p.isText {
		return []byte(p.s)
	}
	return number(uint64(p.n))
}

// number is a number's bytes.
func number(n uint64) []byte { return binary.AppendUvarint(nil, n) }

// isCount tells whether it is how many there are of something.
func (p piece) isCount() bool { return p.above == api.ErrLarge }

// lister lists pieces.
type lister struct{ l []piece }

func (v *lister) number(n *int, most int, above api.Code) {
	v.l = append(v.l, piece{n: *n, most: most, above: above})
}

func (v *lister) text(s *string, _ int) { v.l = append(v.l, piece{isText: true, s: *s}) }

// pieces are a chart's: of any whose numbers aren't below 0.
func pieces(c api.Chart) []piece {
	v, c := &lister{}, plain(c)
	walk(&c, v)
	return v.l
}

func written(l []piece) []byte {
	var b []byte
	for _, p := range l {
		b = append(b, p.bytes()...)
	}
	return b
}

// starts are where pieces begin, and where the last one ends.
func starts(l []piece) []int {
	at := []int{0}
	for i := range l {
		at = append(at, at[i]+len(l[i].bytes()))
	}
	return at
}

// changer puts n for the number that is the at-th piece.
type changer struct{ at, n int }

func (v *changer) number(n *int, _ int, _ api.Code) {
	if v.at == 0 {
		*n = v.n
	}
	v.at--
}

func (v *changer) text(*string, int) { v.at-- }

// changed is the chart with that number at its at-th piece. Of one that tells
// how many there are of something, if it is another one, all of that are zero.
func changed(c api.Chart, at, n int) api.Chart {
	c = plain(c)
	walk(&c, &changer{at, n})
	return c
}

// taker takes a chart from bytes. It panics with a Spot at the first fault.
type taker struct {
	b  []byte
	at int
}

func (v *taker) fault(code api.Code) { panic(&api.Spot{At: v.at, Err: code}) }

func (v *taker) number(n *int, most int, above api.Code) {
	got, size := binary.Uvarint(v.b[v.at:])
	if size <= 0 || size > len(number(got)) || got > math.MaxInt32 {
		v.fault(api.ErrForm)
	}
	if got > uint64(most) {
		v.fault(above)
	}
	*n = int(got)
	v.at += size
}

func (v *taker) text(s *string, n int) {
	if v.at+n > len(v.b) {
		v.fault(api.ErrForm)
	}
	*s = string(v.b[v.at:][:n])
	v.at += n
}

// taken is what Get is to answer.
func taken(b []byte) (c api.Chart, err error) {
	defer func() {
		if spot, ok := recover().(*api.Spot); ok {
			c, err = api.Chart{}, spot
		}
	}()
	v := &taker{b: b}
	walk(&c, v)
	if v.at < len(b) {
		v.fault(api.ErrForm)
	}
	if err := chart.Check(c); err != nil {
		return api.Chart{}, err
	}
	return c, nil
}

// checkByReading holds Get against the second reading, and P6.4. It tells the
// error.
func checkByReading(t *testing.T, b []byte) error {
	t.Helper()
	want, err := taken(b)
	if err != nil {
		checkError(t, b, err)
		return err
	}
	checkBoth(t, want, b)
	return nil
}

// checkChart holds both calls against the second reading, of a chart whose
// numbers aren't below 0, and of which there aren't too many of anything. It
// tells whether it may be.
func checkChart(t *testing.T, c api.Chart) bool {
	t.Helper()
	b := written(pieces(c))
	if err := chart.Check(c); err != nil {
		checkNoPut(t, c, err)
		checkError(t, b, err)
		return false
	}
	checkBoth(t, c, b)
	return true
}

// P6.1, P6.2: at each place where a number stands, other ones: such that the
// chart may still be, and such that it may not.

func TestOtherNumbers(t *testing.T) {
	sound := 0
	for _, c := range []api.Chart{smallest(), kinds(), regions()} {
		for at, p := range pieces(c) {
			if p.isText {
				continue
			}
			for n := range min(p.most+1, 140) {
				if checkChart(t, changed(c, at, n)) {
					sound++
				}
			}
		}
	}
	if sound < 3000 {
		t.Errorf("just %d charts that may be", sound)
	}
}

// Great numbers, with no bit of them lost: with bits above those of one that may
// be, a number isn't that one.

func TestGreatNumbers(t *testing.T) {
	for _, c := range []api.Chart{smallest(), kinds(), regions()} {
		for at, p := range pieces(c) {
			if p.isText || p.most < math.MaxInt32 {
				continue
			}
			for _, n := range []int{127, 128, 129, 255, 256, 1000, 1001, 16383, 16384, 16385, 1<<21 - 1, 1 << 21, 1<<28 - 1, 1 << 28, math.MaxInt32 - 1, math.MaxInt32} {
				checkChart(t, changed(c, at, n))
			}
			for bit := 7; bit < 31; bit++ {
				checkChart(t, changed(c, at, p.n|1<<bit))
			}
			if checkChart(t, changed(c, at, math.MaxInt32)) {
				t.Errorf("with 2^31 - 1 at %d it may be: %v", at, c)
			}
		}
	}
}

// P6.1 to P6.4: charts by a fixed rule, that grow as long as they may be.

func TestManyCharts(t *testing.T) {
	sound, trans, targets := 0, 0, 0
	for seed := range uint32(60) {
		m := maker{x: seed*2654435761 + 1}
		c := []api.Chart{smallest(), kinds(), regions()}[seed%3]
		for range 60 {
			next := plain(c)
			m.change(&next)
			if checkChart(t, next) {
				c = next
				checkRound(t, c)
				sound++
			}
		}
		for _, one := range c.Trans {
			trans++
			targets += len(one.Targets)
		}
	}
	if sound < 1000 || trans < 200 || targets < 100 {
		t.Errorf("just %d charts, that come to %d transitions and %d Targets", sound, trans, targets)
	}
}

// maker makes charts by a fixed rule.
type maker struct{ x uint32 }

func (m *maker) below(n int) int {
	m.x = m.x*1664525 + 1013904223
	return int(m.x>>16) % n
}

// of is one of these.
func of[T any](m *maker, l ...T) T { return l[m.below(len(l))] }

// change changes one thing in a chart.
func (m *maker) change(c *api.Chart) {
	n := len(c.States)
	state := &c.States[m.below(n)]
	switch m.below(6) {
	case 0:
		c.Vars = of(m, 2, 7, 8, 8, 8)
	case 1:
		state.Entry = m.acts()
	case 2:
		state.Exit = m.acts()
	case 3:
		state.Kind, state.Initial = 1+m.below(6), of(m, nil, []int{m.below(n)})
	case 4:
		c.States = append(c.States, api.State{Kind: of(m, api.Atomic, api.Final), Parent: of(m, 0, n-1, c.States[n-1].Parent+1)})
	case 5:
		one := api.Trans{Source: m.below(n), Event: of(m, 0, 1, 127, 128, 1000, 1001, 1002, 2000+m.below(n)), Guard: m.truth(), Internal: m.below(2) == 0, Acts: m.acts()}
		for range m.below(4) {
			one.Targets = append(one.Targets, m.below(n))
		}
		c.Trans = append(c.Trans, one)
	}
	c.States, c.Trans = c.States[:min(len(c.States), 24)], c.Trans[:min(len(c.Trans), 40)]
}

// acts are up to five, that may be with eight variables.
func (m *maker) acts() []api.Act {
	var l []api.Act
	for range m.below(6) {
		number := m.number()
		l = append(l, of(m,
			api.Act{Kind: api.Assign, N: m.below(8), Expr: number},
			api.Act{Kind: api.Raise, N: 1 + m.below(1000)},
			api.Act{Kind: api.Send, N: 1 + m.below(1000), M: m.below(1001), Expr: number},
			api.Act{Kind: api.Cancel, N: 1 + m.below(1000)},
			api.Act{Kind: api.Log, Expr: number}))
	}
	return l
}

func (m *maker) number() string {
	s := of(m, "1", "a", "b", "12345", "-g", "h")
	for range m.below(90) {
		s += of(m, "+1", "*2", " - 3")
	}
	return s[:min(len(s), 180)] + of(m, "0", "1", "+1", "-2")
}

func (m *maker) truth() string { return of(m, "", "true", "a<1", m.number()+"==7") }

// P1, P6.2: all rows of two bytes, and longer ones of few bytes.

func TestAllShortBytes(t *testing.T) {
	for a := range 256 {
		checkByReading(t, []byte{byte(a)})
		for b := range 256 {
			checkByReading(t, []byte{byte(a), byte(b)})
		}
	}
	few := []byte{0, 1, 2, 3, 4, 25, 41, 127, 128, 129, 255}
	grow := [][]byte{{}}
	for range 5 {
		var longer [][]byte
		for _, b := range grow {
			checkByReading(t, b)
			for _, one := range few {
				longer = append(longer, append(slices.Clip(b), one))
			}
		}
		grow = longer
	}
}

// P6.2, P6.4: at each byte of charts' bytes another one, one more, or one less.

func TestOtherBytes(t *testing.T) {
	sound := 0
	for _, b := range [][]byte{byHand(t, "0 2 0  2 0 1 1 0 0  1 1 0 0 0"), kindsBytes(t), regionsBytes(t)} {
		for at := range b {
			for n := range 256 {
				other, more := slices.Clone(b), slices.Insert(slices.Clone(b), at, byte(n))
				other[at] = byte(n)
				for _, one := range [][]byte{other, more} {
					if checkByReading(t, one) == nil {
						sound++
					}
				}
			}
			checkByReading(t, slices.Delete(slices.Clone(b), at, at+1))
		}
	}
	if sound < 1000 {
		t.Errorf("just %d of them are those of charts that may be", sound)
	}
}

// P1, P6.2, P6.4: whatever bytes.

func FuzzGet(f *testing.F) {
	for _, c := range []api.Chart{smallest(), kinds(), regions()} {
		f.Add(written(pieces(c)))
	}
	f.Add([]byte{})
	f.Add(bytes.Repeat([]byte{128}, 20))
	f.Fuzz(func(t *testing.T, b []byte) {
		was := slices.Clone(b)
		if checkByReading(t, b) == nil {
			c, _ := codec.Get(b)
			checkRound(t, c)
		}
		if !bytes.Equal(b, was) {
			t.Errorf("%v became %v", was, b)
		}
	})
}
