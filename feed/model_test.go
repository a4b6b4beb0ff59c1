package feed_test

import (
	"math/rand/v2"
	"slices"
	"testing"

	"spinet/api"
	"spinet/feed"
)

// model is a feed as the chapter tells of it: all that came, and of each reader how
// much of that it has read, or didn't see.
type model struct {
	room int
	came []int64
	seen []int
}

func (m *model) read() (int, error) {
	if len(m.seen) == 8 {
		return 0, api.ErrFull
	}
	m.seen = append(m.seen, len(m.came))
	return len(m.seen) - 1, nil
}

func (m *model) poll(reader int) ([]int64, int, error) {
	if reader < 0 || reader >= len(m.seen) {
		return nil, 0, api.ErrNone
	}
	news := m.came[m.seen[reader]:]
	m.seen[reader] = len(m.came)
	lost := max(len(news)-m.room, 0)
	return news[lost:], lost, nil
}

// call is one of a feed: Kind 0 adds n, 1 reads, 2 polls reader n.
type call struct {
	kind int
	n    int64
}

// do makes a call of a feed, and of the model.
func (m *model) do(t *testing.T, f *feed.Feed, c call) {
	t.Helper()
	switch c.kind {
	case 0:
		m.came = append(m.came, c.n)
		f.Add(c.n)
	case 1:
		want, bad := m.read()
		if number, err := f.Read(); number != want || err != bad {
			t.Errorf("Read() = %d, %v, want %d, %v", number, err, want, bad)
		}
	case 2:
		want, gone, bad := m.poll(int(c.n))
		if l, lost, err := f.Poll(int(c.n)); !slices.Equal(l, want) || lost != gone || err != bad {
			t.Errorf("Poll(%d) = %v, %d, %v, want %v, %d, %v", c.n, l, lost, err, want, gone, bad)
		}
	}
}

// checkCalls makes these of a new feed; in the end each reader reads twice, and a
// reader that isn't there.
func checkCalls(t *testing.T, room int, l []call) {
	t.Helper()
	f, m := made(t, room, 0), &model{room: room}
	for _, c := range l {
		m.do(t, f, c)
	}
	for reader := range len(m.seen) + 1 {
		m.do(t, f, call{2, int64(reader)})
		m.do(t, f, call{2, int64(reader)})
	}
	if t.Failed() {
		t.Fatalf("room %d: %v", room, l)
	}
}

// All rows of up to seven calls, of feeds with little room.

func TestAllRowsOfCalls(t *testing.T) {
	few := []call{{0, 5}, {0, -6}, {1, 0}, {2, 0}, {2, 1}, {2, -1}}
	for room := 1; room <= 3; room++ {
		for size := 1; size <= 7; size++ {
			places := make([]int, size)
			for more := true; more; more = goOn(places, len(few)) {
				l := make([]call, size)
				for i, k := range places {
					l[i] = few[k]
				}
				checkCalls(t, room, l)
			}
		}
	}
}

// goOn makes the next row of as many numbers, all below n; false, if that was the
// last one.
func goOn(l []int, n int) bool {
	for i := range l {
		l[i]++
		if l[i] < n {
			return true
		}
		l[i] = 0
	}
	return false
}

// drawn is a call; in a hundred of them so many read, and so many poll.
func drawn(r *rand.Rand, reads, polls int) call {
	switch k := r.IntN(100); {
	case k < reads:
		return call{kind: 1}
	case k < reads+polls:
		return call{kind: 2, n: r.Int64N(11) - 1}
	}
	if r.IntN(3) == 0 {
		return call{n: int64(r.Uint64())}
	}
	return call{n: r.Int64N(3)}
}

// Many longer rows, of feeds of any room, that are read seldom or often.

func TestLongRowsOfCalls(t *testing.T) {
	r := rand.New(rand.NewPCG(18, 1))
	for range 5000 {
		room := []int{1, 2, 3, 10, 1 + r.IntN(100), 100}[r.IntN(6)]
		reads, polls := []int{1, 5, 20}[r.IntN(3)], []int{1, 5, 20, 60}[r.IntN(4)]
		l := make([]call, 30+r.IntN(500))
		for i := range l {
			l[i] = drawn(r, reads, polls)
		}
		checkCalls(t, room, l)
	}
}

// P18.3: of each reader what it read, with what was lost in its place, is all that
// came since it began, in order. As each entry is the number of those ahead of it,
// that needs no model.

func TestAllThatCame(t *testing.T) {
	r := rand.New(rand.NewPCG(18, 3))
	for range 500 {
		room := 1 + r.IntN(20)
		f := made(t, room, 0)
		came, next := int64(0), []int64{}
		for range 1000 {
			switch k := r.IntN(100); {
			case k < 2:
				if number, err := f.Read(); err == nil && number == len(next) {
					next = append(next, came)
				}
			case k < 20 && len(next) > 0:
				reader := r.IntN(len(next))
				next[reader] = follow(t, f, reader, room, next[reader])
			default:
				f.Add(came)
				came++
			}
		}
		for reader := range next {
			if end := follow(t, f, reader, room, next[reader]); end != came {
				t.Fatalf("room %d: reader %d came to %d, want %d", room, reader, end, came)
			}
		}
	}
}

// follow polls, and tells the entry that is next for the reader then.
func follow(t *testing.T, f *feed.Feed, reader, room int, next int64) int64 {
	t.Helper()
	l, lost, err := f.Poll(reader)
	if err != nil || lost < 0 || len(l) > room || lost > 0 && len(l) < room {
		t.Fatalf("room %d: Poll(%d) = %v, %d, %v", room, reader, l, lost, err)
	}
	next += int64(lost)
	for _, n := range l {
		if n != next {
			t.Fatalf("room %d: Poll(%d) = %v, %d, where %d was next", room, reader, l, lost, next)
		}
		next++
	}
	return next
}
