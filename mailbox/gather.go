package mailbox

import "sync"

// Gather gathers lists: P16.2.
func Gather(room int, l [][]int) ([]int, error) {
	b, err := New(room)
	if err != nil {
		return nil, err
	}
	size := 0
	var pushing sync.WaitGroup
	for _, one := range l {
		size += len(one)
		pushing.Add(1)
		go func() {
			defer pushing.Done()
			b.pushAll(one)
		}()
	}
	gathered := b.takeAll(size)
	pushing.Wait()
	return gathered, nil
}

// pushAll asks for no error: nobody closes the box.
func (b *Box) pushAll(l []int) {
	for _, n := range l {
		b.Push(n)
	}
}

func (b *Box) takeAll(size int) []int {
	l := make([]int, size)
	for i := range l {
		l[i], _ = b.Take()
	}
	return l
}
