package feed_test

import (
	"slices"
	"testing"

	"spinet/feed"
)

// P18.2: what Poll tells is new memory: what is done with it changes neither the feed
// nor what another Poll told, and what comes later doesn't change it.

// spoil changes all that was told, and what its memory has room for behind it.
func spoil(l []int64) {
	l = l[:cap(l)]
	for i := range l {
		l[i] = -1000 - int64(i)
	}
}

func mustPoll(t *testing.T, f *feed.Feed, reader int) []int64 {
	t.Helper()
	l, _, err := f.Poll(reader)
	if err != nil {
		t.Fatalf("Poll(%d): %v", reader, err)
	}
	return l
}

func TestSpoiltAnswersChangeNoFeed(t *testing.T) {
	for room := 1; room <= 10; room++ {
		for came := range 25 {
			f := made(t, room, 3)
			add(f, from(1, came)...)
			spoil(mustPoll(t, f, 0))
			lost := max(came-room, 0)
			checkPoll(t, f, 0, 0)
			checkPoll(t, f, 1, lost, from(1+int64(lost), came-lost)...)
			l := mustPoll(t, f, 2)
			for later := range room {
				add(f, int64(90+later))
				spoil(l)
			}
			for reader := range 3 {
				checkPoll(t, f, reader, 0, from(90, room)...)
			}
		}
	}
}

func TestAnswersStayAsTheyAre(t *testing.T) {
	for room := 1; room <= 10; room++ {
		for came := range 25 {
			f := made(t, room, 2)
			var told, want [][]int64
			for round := range 4 {
				add(f, from(int64(100*round), came)...)
				lost := max(came-room, 0)
				for reader := range 2 {
					told = append(told, mustPoll(t, f, reader))
					want = append(want, from(int64(100*round+lost), came-lost))
				}
			}
			add(f, from(1000, 30)...)
			checkAll(t, told, want)
		}
	}
}

// No two answers share memory, be they one reader's or two readers'.

func TestAnswersAreApart(t *testing.T) {
	f := made(t, 5, 3)
	var told, want [][]int64
	for round := range 6 {
		add(f, from(int64(10*round), 2+round)...)
		lost := max(round-3, 0)
		for reader := range 3 {
			told = append(told, mustPoll(t, f, reader))
			want = append(want, from(int64(10*round+lost), 2+round-lost))
		}
	}
	for i := range told {
		checkAll(t, told[i:], want[i:])
		spoil(told[i])
	}
}

func checkAll(t *testing.T, told, want [][]int64) {
	t.Helper()
	for i := range told {
		if !slices.Equal(told[i], want[i]) {
			t.Errorf("answer %d from the end is %v, want %v", len(told)-i, told[i], want[i])
		}
	}
}
