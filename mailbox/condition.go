package mailbox

import "sync"

// condition is where calls wait, the first one in front. All that is done with it
// is done under its box's mutex.
type condition struct{ waiting []*turn }

// turn is what a call that waits has brought, and then what it is told.
//
// It is told by who lets it on: if it had to look for itself once it goes on, what
// it waited for could be gone again.
type turn struct {
	n    int
	ok   bool
	came chan struct{}
}

// wait lets go of the mutex until the call is let on, and tells what it is told.
func (c *condition) wait(mutex *sync.Mutex, n int) (int, bool) {
	mine := &turn{n: n, came: make(chan struct{})}
	c.waiting = append(c.waiting, mine)
	mutex.Unlock()
	<-mine.came
	mutex.Lock()
	return mine.n, mine.ok
}

// next is the first one, which waits there no more; nil, if none waits.
func (c *condition) next() *turn {
	if len(c.waiting) == 0 {
		return nil
	}
	return takeFirst(&c.waiting)
}

// end lets all of them on, with nothing.
func (c *condition) end() {
	for one := c.next(); one != nil; one = c.next() {
		one.letOn(0, false)
	}
}

func (t *turn) letOn(n int, ok bool) {
	t.n, t.ok = n, ok
	close(t.came)
}
