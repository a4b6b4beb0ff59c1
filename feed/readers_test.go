package feed_test

import "testing"

// P18.1: what came ahead of a reader isn't told to it, nor counted as lost.

func TestReadersBeginLater(t *testing.T) {
	for _, ahead := range []int{0, 1, 2, 3, 4, 10} {
		for behind := range 8 {
			f := made(t, 3, 1)
			add(f, from(100, ahead)...)
			checkRead(t, f, 1)
			add(f, from(200, behind)...)
			lost := max(behind-3, 0)
			checkPoll(t, f, 1, lost, from(200+int64(lost), behind-lost)...)
			checkPoll(t, f, 1, 0)
		}
	}
}

// P18.1: with none to read what comes is kept for no one.

func TestEntriesAheadOfAnyReader(t *testing.T) {
	for came := range 12 {
		f := made(t, 3, 0)
		add(f, from(1, came)...)
		checkRead(t, f, 0)
		checkRead(t, f, 1)
		checkPoll(t, f, 0, 0)
		add(f, 50)
		checkPoll(t, f, 1, 0, 50)
		checkPoll(t, f, 0, 0, 50)
	}
}

// P18.1: each reader has its own entries and its own losses: what one reads the others
// are still told.

func TestReadersReadAtTheirOwnTimes(t *testing.T) {
	f := made(t, 3, 2)
	add(f, 1, 2)
	checkPoll(t, f, 0, 0, 1, 2)
	add(f, 3, 4)
	checkRead(t, f, 2)
	checkPoll(t, f, 2, 0)
	checkPoll(t, f, 1, 1, 2, 3, 4)
	add(f, 5)
	checkPoll(t, f, 0, 0, 3, 4, 5)
	checkPoll(t, f, 1, 0, 5)
	add(f, 6, 7, 8)
	checkPoll(t, f, 2, 1, 6, 7, 8)
	checkPoll(t, f, 0, 0, 6, 7, 8)
	checkPoll(t, f, 0, 0)
	add(f, 9)
	checkPoll(t, f, 1, 1, 7, 8, 9)
	checkPoll(t, f, 2, 0, 9)
	checkPoll(t, f, 0, 0, 9)
	for reader := range 3 {
		checkPoll(t, f, reader, 0)
	}
}

// P18.1: eight readers, of which each begins one entry later than the one ahead of it.

func TestEightReaders(t *testing.T) {
	for room := 1; room <= 12; room++ {
		for more := range 6 {
			f := made(t, room, 0)
			for number := range 8 {
				checkRead(t, f, number)
				add(f, int64(number))
			}
			add(f, from(8, more)...)
			for number := 7; number >= 0; number-- {
				came := 8 - number + more
				lost := max(came-room, 0)
				checkPoll(t, f, number, lost, from(int64(number+lost), came-lost)...)
			}
			for number := range 8 {
				checkPoll(t, f, number, 0)
			}
		}
	}
}

// P18.1: reader k reads behind each k+1 entries: it loses what is over the room, and
// the others nothing by it.

func TestReadersOfDifferentPace(t *testing.T) {
	for room := 1; room <= 10; room++ {
		f := made(t, room, 8)
		for n := range 840 {
			add(f, int64(n))
			for k := range 8 {
				if came := k + 1; (n+1)%came == 0 {
					lost := max(came-room, 0)
					checkPoll(t, f, k, lost, from(int64(n+1-came+lost), came-lost)...)
				}
			}
		}
		for k := range 8 {
			checkPoll(t, f, k, 0)
		}
	}
}
