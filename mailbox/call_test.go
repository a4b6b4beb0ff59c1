package mailbox_test

import (
	"testing"
	"testing/synctest"
	"time"

	"spinet/mailbox"
)

// limit ends the tests, if this one waits for ever; what it tells stops it.
func limit(t *testing.T) func() bool {
	name := t.Name()
	return time.AfterFunc(time.Minute, func() { panic(name + " doesn't end") }).Stop
}

// bubble runs a test in which it can be seen that a call waits. A call that waits
// for ever makes it fail.
func bubble(t *testing.T, test func(*testing.T)) {
	t.Helper()
	defer limit(t)()
	synctest.Test(t, test)
}

// made is a new box with these numbers in it.
func made(t *testing.T, room int, numbers ...int) *mailbox.Box {
	t.Helper()
	b, err := mailbox.New(room)
	if err != nil || b == nil {
		t.Fatalf("New(%d) = %v, %v", room, b, err)
	}
	for _, n := range numbers {
		checkPut(t, b, n, nil)
	}
	return b
}

// closed is likewise, but closed.
func closed(t *testing.T, room int, numbers ...int) *mailbox.Box {
	t.Helper()
	b := made(t, room, numbers...)
	b.Close()
	return b
}

// put and push are what puts numbers into a box, try and take what takes them out.

func put(b *mailbox.Box, n int) error  { return b.Put(n) }
func push(b *mailbox.Box, n int) error { return b.Push(n) }
func try(b *mailbox.Box) (int, bool)   { return b.Try() }
func take(b *mailbox.Box) (int, bool)  { return b.Take() }

type putting func(*mailbox.Box, int) error
type taking func(*mailbox.Box) (int, bool)

// checkPut asks for an error, if want isn't nil, that is the Code itself.
func checkPut(t *testing.T, b *mailbox.Box, n int, want error) {
	t.Helper()
	if err := b.Put(n); err != want {
		t.Errorf("Put(%d): %v, want %v", n, err, want)
	}
}

func checkPush(t *testing.T, b *mailbox.Box, n int, want error) {
	t.Helper()
	if err := b.Push(n); err != want {
		t.Errorf("Push(%d): %v, want %v", n, err, want)
	}
}

func checkTry(t *testing.T, b *mailbox.Box, want int) {
	t.Helper()
	if n, ok := b.Try(); n != want || !ok {
		t.Errorf("Try() = %d, %v, want %d, true", n, ok, want)
	}
}

func checkTake(t *testing.T, b *mailbox.Box, want int) {
	t.Helper()
	if n, ok := b.Take(); n != want || !ok {
		t.Errorf("Take() = %d, %v, want %d, true", n, ok, want)
	}
}

func checkNoTry(t *testing.T, b *mailbox.Box) {
	t.Helper()
	if n, ok := b.Try(); n != 0 || ok {
		t.Errorf("Try() = %d, %v, want 0, false", n, ok)
	}
}

func checkNoTake(t *testing.T, b *mailbox.Box) {
	t.Helper()
	if n, ok := b.Take(); n != 0 || ok {
		t.Errorf("Take() = %d, %v, want 0, false", n, ok)
	}
}

func checkLen(t *testing.T, b *mailbox.Box, want int) {
	t.Helper()
	if n := b.Len(); n != want {
		t.Errorf("Len() = %d, want %d", n, want)
	}
}

// checkHas takes all that waits in a box.
func checkHas(t *testing.T, b *mailbox.Box, want ...int) {
	t.Helper()
	checkLen(t, b, len(want))
	for i, n := range want {
		checkTry(t, b, n)
		checkLen(t, b, len(want)-i-1)
	}
	checkNoTry(t, b)
	checkLen(t, b, 0)
}

// call is one that may wait, and what it told, once it came back.
type call struct {
	n    int
	ok   bool
	err  error
	came bool
}

// pushing begins a Push, of which it is known behind the next Wait whether it
// waits.
func pushing(b *mailbox.Box, n int) *call {
	c := &call{n: n}
	go func() {
		c.err = b.Push(n)
		c.came = true
	}()
	return c
}

// takingOf begins a Take likewise.
func takingOf(b *mailbox.Box) *call {
	c := &call{}
	go func() {
		c.n, c.ok = b.Take()
		c.came = true
	}()
	return c
}

// waitingPush is one that waits at a full box.
func waitingPush(t *testing.T, b *mailbox.Box, n int) *call {
	t.Helper()
	c := pushing(b, n)
	checkWaits(t, c)
	return c
}

// waitingTake is one that waits at an empty box.
func waitingTake(t *testing.T, b *mailbox.Box) *call {
	t.Helper()
	c := takingOf(b)
	checkWaits(t, c)
	return c
}

func checkWaits(t *testing.T, l ...*call) {
	t.Helper()
	synctest.Wait()
	for i, c := range l {
		if c.came {
			t.Errorf("call %d waits no more, it told %d, %v, %v", i, c.n, c.ok, c.err)
		}
	}
}

// checkPushed asks for Pushes that came back, with no error, or with this Code.
func checkPushed(t *testing.T, want error, l ...*call) {
	t.Helper()
	synctest.Wait()
	for i, c := range l {
		if !c.came || c.err != want {
			t.Errorf("Push %d, of %d: it came back: %v, with %v, want %v", i, c.n, c.came, c.err, want)
		}
	}
}

func checkTaken(t *testing.T, c *call, want int) {
	t.Helper()
	synctest.Wait()
	if !c.came || c.n != want || !c.ok {
		t.Errorf("Take: it came back: %v, with %d, %v, want %d, true", c.came, c.n, c.ok, want)
	}
}

func checkNoneTaken(t *testing.T, l ...*call) {
	t.Helper()
	synctest.Wait()
	for i, c := range l {
		if !c.came || c.n != 0 || c.ok {
			t.Errorf("Take %d: it came back: %v, with %d, %v, want 0, false", i, c.came, c.n, c.ok)
		}
	}
}

// cameBack are those that did, and those that didn't.
func cameBack(l []*call) (back, wait []*call) {
	synctest.Wait()
	for _, c := range l {
		if c.came {
			back = append(back, c)
		} else {
			wait = append(wait, c)
		}
	}
	return back, wait
}
