package mailbox_test

import (
	"runtime"
	"slices"
	"sync"
	"sync/atomic"
	"testing"

	"spinet/api"
	"spinet/mailbox"
)

// each is how many numbers each of many that push has; number i of the p-th is
// p*each + i.
const each = 2000

// crowd are many that push numbers into a box, and many that take them, at once:
// here just how it ends can be seen.
type crowd struct {
	box     *mailbox.Box
	pushed  [][]int // of each that pushes, what was accepted
	taken   [][]int // of each that takes
	pushing sync.WaitGroup
	taking  sync.WaitGroup
}

func crowdAt(b *mailbox.Box, pushers, takers int) *crowd {
	return &crowd{box: b, pushed: make([][]int, pushers), taken: make([][]int, takers)}
}

// push lets all of them push at once, by Push, or by Put till there is room; until
// the box is closed.
func (c *crowd) push(t *testing.T, one putting) {
	for p := range c.pushed {
		c.pushing.Go(func() {
			for i := 0; i < each; {
				err := one(c.box, p*each+i)
				switch err {
				case nil:
					c.pushed[p] = append(c.pushed[p], p*each+i)
					i++
				case api.ErrFull:
					runtime.Gosched()
				default:
					c.checkEnd(t, err)
					return
				}
			}
		})
	}
}

func (c *crowd) checkEnd(t *testing.T, err error) {
	if err != error(api.ErrClosed) {
		t.Errorf("what is pushed is refused with %v", err)
	}
}

// take lets all of them take at once, until the box is closed and none waits; by
// Try, which doesn't tell that, until done holds.
func (c *crowd) take(one taking, done func() bool) {
	for k := range c.taken {
		c.taking.Go(func() {
			for {
				last := done()
				n, ok := one(c.box)
				switch {
				case ok:
					c.taken[k] = append(c.taken[k], n)
				case last:
					return
				default:
					runtime.Gosched()
				}
			}
		})
	}
}

// check asks that each number that was accepted was taken once, and by each that
// takes those of one in their order.
func (c *crowd) check(t *testing.T) {
	t.Helper()
	pushed, taken := slices.Concat(c.pushed...), slices.Concat(c.taken...)
	slices.Sort(taken)
	if !slices.Equal(pushed, taken) {
		t.Errorf("%d were accepted, %d taken, and they aren't the same", len(pushed), len(taken))
	}
	for _, l := range c.taken {
		last := map[int]int{}
		for _, n := range l {
			if was, ok := last[n/each]; ok && was >= n {
				t.Errorf("%d is taken behind %d", n, was)
			}
			last[n/each] = n
		}
	}
	checkLen(t, c.box, 0)
}

// P16.1: many push and take at once: each number is taken once, and those of one
// that pushes in their order.

func TestManyAtOnce(t *testing.T) {
	defer limit(t)()
	for _, room := range []int{1, 2, 7, 1000} {
		for _, many := range []struct{ pushers, takers int }{{1, 1}, {1, 8}, {8, 1}, {8, 8}, {3, 20}} {
			c := crowdAt(made(t, room), many.pushers, many.takers)
			c.take(take, func() bool { return true })
			c.push(t, push)
			c.pushing.Wait()
			c.box.Close()
			c.taking.Wait()
			c.check(t)
			for p, l := range c.pushed {
				if len(l) != each {
					t.Errorf("of %d just %d were accepted", p, len(l))
				}
			}
		}
	}
}

// P16.1: so do many that don't wait, and some that do among them.

func TestManyThatDontWait(t *testing.T) {
	defer limit(t)()
	for _, room := range []int{1, 3, 1000} {
		for put, one := range puttings() {
			for take, other := range takings() {
				c := crowdAt(made(t, room), 4, 4)
				var done atomic.Bool
				c.take(other, func() bool { return done.Load() || take == "Take" })
				c.push(t, one)
				c.pushing.Wait()
				c.box.Close()
				done.Store(true)
				c.taking.Wait()
				if c.check(t); t.Failed() {
					t.Fatalf("by %s and %s at room %d", put, take, room)
				}
			}
		}
	}
}

// P16.1: the box is closed while many push and take: what was accepted is taken all
// the same, and nothing else is; and all come back.

func TestCloseAmidMany(t *testing.T) {
	defer limit(t)()
	for range 20 {
		for _, room := range []int{1, 2, 100} {
			c := crowdAt(made(t, room), 5, 3)
			var seen atomic.Int64
			c.take(func(b *mailbox.Box) (int, bool) {
				if seen.Add(1) == each {
					b.Close()
				}
				return b.Take()
			}, func() bool { return true })
			c.push(t, push)
			c.pushing.Wait()
			c.taking.Wait()
			c.check(t)
			checkPut(t, c.box, 1, api.ErrClosed)
		}
	}
}

// P16.1: while many push and take, no more wait than there is room.

func TestNeverMoreThanRoom(t *testing.T) {
	defer limit(t)()
	for _, room := range []int{1, 2, 5} {
		c := crowdAt(made(t, room), 6, 2)
		c.take(take, func() bool { return true })
		c.push(t, push)
		var done atomic.Bool
		var looking sync.WaitGroup
		looking.Go(func() {
			for !done.Load() {
				if n := c.box.Len(); n < 0 || n > room {
					t.Errorf("%d wait in a box of room %d", n, room)
				}
			}
		})
		c.pushing.Wait()
		c.box.Close()
		c.taking.Wait()
		done.Store(true)
		looking.Wait()
		c.check(t)
	}
}

// P16.1: no call waits for ever, though others come and go all the time.

func TestNobodyIsPassedByForEver(t *testing.T) {
	defer limit(t)()
	for range 10 {
		b := made(t, 1, 1)
		var done atomic.Bool
		var busy sync.WaitGroup
		for range 3 {
			busy.Go(func() {
				for !done.Load() {
					b.Try()
					b.Put(1)
				}
			})
		}
		checkPush(t, b, 2, nil)
		if _, ok := b.Take(); !ok {
			t.Error("a Take of an open box told nothing")
		}
		done.Store(true)
		busy.Wait()
	}
}
