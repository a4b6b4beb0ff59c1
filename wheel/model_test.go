package wheel_test

import (
	"math/rand/v2"
	"slices"
	"testing"

	"spinet/api"
	"spinet/wheel"
)

// model is a wheel as the chapter tells of it: its clock, and what is set, in the
// order in which it was.
type model struct {
	clock int
	set   []api.Timer
}

func (m *model) find(id int) int {
	return slices.IndexFunc(m.set, func(one api.Timer) bool { return one.Id == id })
}

func (m *model) put(one api.Timer) error {
	switch {
	case m.find(one.Id) >= 0:
		return api.ErrTwice
	case one.At <= m.clock || one.At > 1<<30:
		return api.ErrArg
	case len(m.set) == 50:
		return api.ErrFull
	}
	m.set = append(m.set, one)
	return nil
}

func (m *model) cancel(id int) bool {
	i := m.find(id)
	if i >= 0 {
		m.set = slices.Delete(m.set, i, i+1)
	}
	return i >= 0
}

// tick takes the first one of the least At, until that isn't due.
func (m *model) tick(now int) ([]api.Timer, error) {
	if now < m.clock || now > 1<<30 {
		return nil, api.ErrArg
	}
	m.clock = now
	var told []api.Timer
	for {
		least := -1
		for i, one := range m.set {
			if one.At <= now && (least < 0 || one.At < m.set[least].At) {
				least = i
			}
		}
		if least < 0 {
			return told, nil
		}
		told = append(told, m.set[least])
		m.set = slices.Delete(m.set, least, least+1)
	}
}

// call is one of a wheel: Kind 0 sets, 1 cancels, 2 ticks; At is counted from the
// clock on.
type call struct{ kind, id, at int }

// do makes a call of a wheel, and of the model.
func (m *model) do(t *testing.T, w *wheel.Wheel, c call) {
	t.Helper()
	now := m.clock
	switch c.kind {
	case 0:
		one := timer(c.id, now+c.at)
		checkSet(t, w, one, m.put(one))
	case 1:
		checkCancel(t, w, c.id, m.cancel(c.id))
	case 2:
		want, bad := m.tick(now + c.at)
		if l, err := w.Tick(now + c.at); err != bad || !slices.Equal(l, want) {
			t.Errorf("Tick(%d) = %v, %v, want %v, %v", now+c.at, l, err, want, bad)
		}
	}
	checkStands(t, w, m.clock, len(m.set))
}

// checkCalls makes these of a new wheel; in the end all that is set is told.
func checkCalls(t *testing.T, now int, l []call) {
	t.Helper()
	w, m := madeAt(t, now), &model{clock: now}
	for _, c := range l {
		m.do(t, w, c)
	}
	m.do(t, w, call{kind: 2, at: 1<<30 - m.clock})
	if t.Failed() {
		t.Fatalf("from %d: %v", now, l)
	}
}

// All rows of up to five calls, of a few Ids and Ats.

func TestAllRowsOfCalls(t *testing.T) {
	few := []call{{0, 1, 1}, {0, 1, 2}, {0, 2, 1}, {0, 2, 65}, {0, 3, 1}, {1, 1, 0}, {1, 2, 0}, {2, 0, 1}, {2, 0, 64}, {2, 0, -1}}
	for size := 1; size <= 5; size++ {
		places := make([]int, size)
		for more := true; more; more = goOn(places, len(few)) {
			l := make([]call, size)
			for i, k := range places {
				l[i] = few[k]
			}
			checkCalls(t, 0, l)
		}
	}
}

// goOn makes the next row of as many numbers, all below n; false, if that was the
// last one.
func goOn(l []int, n int) bool {
	for i := range l {
		l[i]++
		if l[i] < n {
			return true
		}
		l[i] = 0
	}
	return false
}

// drawn is a call, of so many Ids, and at most so far ahead.
func drawn(r *rand.Rand, ids, far, step int) call {
	c := call{kind: []int{0, 0, 0, 1, 2}[r.IntN(5)], id: r.IntN(ids) - ids/2}
	if c.kind == 2 {
		c.at = r.IntN(step+2) - 1
	} else {
		c.at = r.IntN(far+2) - 1
	}
	return c
}

// P17.1, P17.2: many longer rows, of wheels that are nearly empty, or full.

func TestLongRowsOfCalls(t *testing.T) {
	r := rand.New(rand.NewPCG(17, 1))
	for range 5000 {
		now := []int{0, 0, r.IntN(1000), r.IntN(1 << 30), 1<<30 - r.IntN(300)}[r.IntN(5)]
		ids := []int{2, 5, 20, 60, 500}[r.IntN(5)]
		far := []int{1, 5, 70, 200, 1000, 1 << 29}[r.IntN(6)]
		step := []int{1, 3, 64, 70, 200, 1000, 1 << 28}[r.IntN(7)]
		l := make([]call, 30+r.IntN(200))
		for i := range l {
			l[i] = drawn(r, ids, far, step)
		}
		checkCalls(t, now, l)
	}
}

// P17.3: each that was set is told once, unless it was cancelled, and at the first
// tick that isn't ahead of its At.

func TestEachIsToldOnce(t *testing.T) {
	r := rand.New(rand.NewPCG(17, 3))
	for range 300 {
		w := wheel.New()
		waiting := map[int]api.Timer{}
		far, step := 1+r.IntN(300), 1+r.IntN(200)
		for n := range 600 {
			one := api.Timer{Id: n, At: w.Now() + 1 + r.IntN(far), What: n}
			if w.Set(one.Id, one.At, one.What) == nil {
				waiting[n] = one
			}
			if id := r.IntN(2000); w.Cancel(id) {
				delete(waiting, id)
			}
			if r.IntN(4) == 0 {
				checkDue(t, w, waiting, w.Now()+r.IntN(step))
			}
		}
		checkDue(t, w, waiting, w.Now()+far)
		if len(waiting) > 0 || w.Len() > 0 || t.Failed() {
			t.Fatalf("far %d, step %d: %d weren't told, Len() = %d", far, step, len(waiting), w.Len())
		}
	}
}

// checkDue ticks, and takes what is told off those that wait: none that doesn't wait
// is told, none too soon, and none too late.
func checkDue(t *testing.T, w *wheel.Wheel, waiting map[int]api.Timer, now int) {
	t.Helper()
	told, err := w.Tick(now)
	if err != nil {
		t.Fatal(err)
	}
	for _, one := range told {
		if has, ok := waiting[one.Id]; !ok || has != one || one.At > now {
			t.Fatalf("Tick(%d) told %v; it waits: %v, as %v", now, one, ok, has)
		}
		delete(waiting, one.Id)
	}
	for _, one := range waiting {
		if one.At <= now {
			t.Fatalf("Tick(%d) didn't tell %v", now, one)
		}
	}
}
