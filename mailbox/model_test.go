package mailbox_test

import (
	"math/rand/v2"
	"slices"
	"testing"

	"spinet/api"
	"spinet/mailbox"
)

// model is a box as the chapter tells of it, and the calls that wait there.
type model struct {
	room    int
	closed  bool
	numbers []int
	pushes  []*call
	takes   []*call
}

// put is what a Put, or a Push that needn't wait, tells.
func (m *model) put(n int) error {
	switch {
	case m.closed:
		return api.ErrClosed
	case len(m.numbers) == m.room:
		return api.ErrFull
	}
	m.numbers = append(m.numbers, n)
	return nil
}

// take is what a Try, or a Take that needn't wait, tells.
func (m *model) take() (int, bool) {
	if len(m.numbers) == 0 {
		return 0, false
	}
	n := m.numbers[0]
	m.numbers = m.numbers[1:]
	return n, true
}

// letOn takes those off that came back: each has told what it had to, and could be
// let on. Which one of several is the chapter doesn't say.
func (m *model) letOn(t *testing.T) {
	t.Helper()
	var takes, pushes []*call
	takes, m.takes = cameBack(m.takes)
	pushes, m.pushes = cameBack(m.pushes)
	for len(takes)+len(pushes) > 0 {
		switch {
		case len(takes) > 0 && (m.closed || len(m.numbers) > 0):
			m.letTakeOn(t, takes[0])
			takes = takes[1:]
		case len(pushes) > 0 && (m.closed || len(m.numbers) < m.room):
			m.letPushOn(t, pushes[0])
			pushes = pushes[1:]
		default:
			t.Errorf("%d Takes and %d Pushes came back, closed: %v, with %v in the box of room %d", len(takes), len(pushes), m.closed, m.numbers, m.room)
			return
		}
	}
}

func (m *model) letTakeOn(t *testing.T, c *call) {
	t.Helper()
	if n, ok := m.take(); c.n != n || c.ok != ok {
		t.Errorf("a Take told %d, %v, want %d, %v", c.n, c.ok, n, ok)
	}
}

func (m *model) letPushOn(t *testing.T, c *call) {
	t.Helper()
	if want := m.put(c.n); c.err != want {
		t.Errorf("a Push told %v, want %v", c.err, want)
	}
}

// check asks that none waits for what is there, and none is there that shouldn't be.
func (m *model) check(t *testing.T, b *mailbox.Box) {
	t.Helper()
	m.letOn(t)
	if len(m.takes) > 0 && (m.closed || len(m.numbers) > 0) {
		t.Errorf("%d Takes wait, closed: %v, with %v in the box", len(m.takes), m.closed, m.numbers)
	}
	if len(m.pushes) > 0 && (m.closed || len(m.numbers) < m.room) {
		t.Errorf("%d Pushes wait, closed: %v, with %v in the box of room %d", len(m.pushes), m.closed, m.numbers, m.room)
	}
	checkLen(t, b, len(m.numbers))
}

// kinds of calls.
const (
	aPut = iota
	aPush
	aTry
	aTake
	aClose
	kinds
)

// do makes a call of a box, and of the model.
func (m *model) do(t *testing.T, b *mailbox.Box, kind, n int) {
	t.Helper()
	switch kind {
	case aPut:
		checkPut(t, b, n, m.put(n))
	case aPush:
		m.pushes = append(m.pushes, pushing(b, n))
	case aTry:
		want, ok := m.take()
		if got, has := b.Try(); got != want || has != ok {
			t.Errorf("Try() = %d, %v, want %d, %v", got, has, want, ok)
		}
	case aTake:
		m.takes = append(m.takes, takingOf(b))
	case aClose:
		m.closed = true
		b.Close()
	}
}

// checkCalls makes these calls of a new box, each once all that came ahead of it
// wait, or came back; in the end all have to.
func checkCalls(t *testing.T, room int, l []int) {
	t.Helper()
	b := made(t, room)
	m := &model{room: room}
	for i, kind := range append(slices.Clone(l), aClose) {
		m.do(t, b, kind, i+1)
		m.check(t, b)
	}
	checkHas(t, b, m.numbers...)
	if t.Failed() {
		t.Fatalf("room %d, calls %v", room, l)
	}
}

// P16.1: all rows of up to six calls, at small rooms.

func TestAllRowsOfCalls(t *testing.T) {
	for room := 1; room <= 3; room++ {
		for size := 1; size <= 6; size++ {
			l := make([]int, size)
			for more := true; more; more = goOn(l) {
				bubble(t, func(t *testing.T) { checkCalls(t, room, l) })
			}
		}
	}
}

// goOn makes the next row of as many calls; false, if that was the last one.
func goOn(l []int) bool {
	for i := range l {
		l[i]++
		if l[i] < kinds {
			return true
		}
		l[i] = 0
	}
	return false
}

// P16.1: many longer rows, in which the box is closed late, if at all.

func TestLongRowsOfCalls(t *testing.T) {
	r := rand.New(rand.NewPCG(16, 1))
	for range 2000 {
		room := 1 + r.IntN(6)
		in := r.IntN(4)
		l := make([]int, 20+r.IntN(60))
		for i := range l {
			l[i] = []int{aPut, aPush, aTry, aTake}[(r.IntN(4)+r.IntN(2)*in)%4]
			if r.IntN(150) == 0 {
				l[i] = aClose
			}
		}
		bubble(t, func(t *testing.T) { checkCalls(t, room, l) })
	}
}
