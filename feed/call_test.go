package feed_test

import (
	"slices"
	"testing"

	"spinet/api"
	"spinet/feed"
)

// made is a new feed with room for so many, and so many readers.
func made(t *testing.T, room, readers int) *feed.Feed {
	t.Helper()
	f, err := feed.New(room)
	if f == nil || err != nil {
		t.Fatalf("New(%d) = %v, %v", room, f, err)
	}
	for number := range readers {
		checkRead(t, f, number)
	}
	return f
}

// from are n entries, from the first on.
func from(first int64, n int) []int64 {
	var l []int64
	for i := range n {
		l = append(l, first+int64(i))
	}
	return l
}

// add lets all of these come, in their order.
func add(f *feed.Feed, l ...int64) {
	for _, n := range l {
		f.Add(n)
	}
}

func checkRead(t *testing.T, f *feed.Feed, want int) {
	t.Helper()
	if number, err := f.Read(); number != want || err != nil {
		t.Errorf("Read() = %d, %v, want %d", number, err, want)
	}
}

func checkNoRead(t *testing.T, f *feed.Feed) {
	t.Helper()
	if number, err := f.Read(); number != 0 || err != error(api.ErrFull) {
		t.Errorf("Read() = %d, %v, want 0, ErrFull", number, err)
	}
}

func checkPoll(t *testing.T, f *feed.Feed, reader, lost int, want ...int64) {
	t.Helper()
	if l, gone, err := f.Poll(reader); !slices.Equal(l, want) || gone != lost || err != nil {
		t.Errorf("Poll(%d) = %v, %d, %v, want %v, %d", reader, l, gone, err, want, lost)
	}
}

// checkNoPoll asks for ErrNone itself, and for nothing beside it.
func checkNoPoll(t *testing.T, f *feed.Feed, reader int) {
	t.Helper()
	if l, gone, err := f.Poll(reader); len(l) > 0 || gone != 0 || err != error(api.ErrNone) {
		t.Errorf("Poll(%d) = %v, %d, %v, want nothing, 0, ErrNone", reader, l, gone, err)
	}
}
