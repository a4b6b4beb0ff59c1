package feed_test

import (
	"math"
	"testing"
)

// P18.1: what came is told in order, the newest of it, as there is room; how many
// older ones there were is told, too. The second Poll in a row tells nothing.

func TestPoll(t *testing.T) {
	f := made(t, 2, 1)
	checkPoll(t, f, 0, 0)
	checkPoll(t, f, 0, 0)
	add(f, 1, 2, 3)
	checkPoll(t, f, 0, 1, 2, 3)
	checkPoll(t, f, 0, 0)
	add(f, 4)
	checkPoll(t, f, 0, 0, 4)
	checkPoll(t, f, 0, 0)
	add(f, 5, 6)
	checkPoll(t, f, 0, 0, 5, 6)
	checkPoll(t, f, 0, 0)
	add(f, 7, 8, 9, 10, 11)
	checkPoll(t, f, 0, 3, 10, 11)
	checkPoll(t, f, 0, 0)
}

// P18.1: likewise of each room, with as many as come: up to what there is room for,
// one more, and many times as many.

func TestPollOfAsMany(t *testing.T) {
	for room := 1; room <= 100; room++ {
		for _, came := range amounts(room) {
			f := made(t, room, 1)
			add(f, from(-3, came)...)
			kept := min(came, room)
			lost := came - kept
			checkPoll(t, f, 0, lost, from(int64(lost)-3, kept)...)
			checkPoll(t, f, 0, 0)
		}
	}
}

// amounts are how many come: few, about as many as there is room for, and many times
// as many.
func amounts(room int) []int {
	l := []int{0, 1, 2, 3, 7}
	for _, times := range []int{1, 2, 3, 10, 64} {
		l = append(l, times*room-1, times*room, times*room+1)
	}
	return append(l, 1000*room+room/2)
}

// P18.1: what was lost ahead of a Poll isn't counted again behind it, nor does what
// was kept take room then.

func TestPollAgainAndAgain(t *testing.T) {
	for _, room := range []int{1, 2, 3, 5, 8, 99, 100} {
		for _, first := range amounts(room) {
			for _, second := range amounts(room) {
				f := made(t, room, 1)
				came := int64(0)
				for _, n := range []int{first, second, 1, first} {
					add(f, from(came, n)...)
					came += int64(n)
					kept := min(n, room)
					checkPoll(t, f, 0, n-kept, from(came-int64(kept), kept)...)
				}
				checkPoll(t, f, 0, 0)
			}
		}
	}
}

// P18.1: with room for one just the newest is kept.

func TestRoomForOne(t *testing.T) {
	f := made(t, 1, 2)
	checkPoll(t, f, 0, 0)
	for n := range int64(50) {
		add(f, n)
		checkPoll(t, f, 0, 0, n)
		checkPoll(t, f, 0, 0)
	}
	checkPoll(t, f, 1, 49, 49)
	add(f, 7, 7)
	checkPoll(t, f, 1, 1, 7)
	checkPoll(t, f, 0, 1, 7)
}

// P18.1: entries are any numbers; those that are there already come, and are lost, as
// any others.

func TestEntriesOfAnyValue(t *testing.T) {
	l := []int64{0, 0, -1, 1, math.MinInt64, math.MaxInt64, 0, math.MinInt64, math.MinInt64, math.MaxInt64,
		1 << 31, -1 << 31, 1 << 32, 1<<32 + 1, 1 << 53, 1<<53 + 1, 0, 1, 1, 1, -1, -1}
	for room := 1; room <= len(l)+1; room++ {
		for came := range len(l) + 1 {
			f := made(t, room, 1)
			add(f, l[:came]...)
			lost := max(came-room, 0)
			checkPoll(t, f, 0, lost, l[lost:came]...)
			checkPoll(t, f, 0, 0)
		}
	}
}

func TestEntriesAllTheSame(t *testing.T) {
	for _, n := range []int64{0, 1, -1, math.MinInt64, math.MaxInt64} {
		for came := range 12 {
			f := made(t, 4, 1)
			var all []int64
			for range came {
				add(f, n)
				all = append(all, n)
			}
			checkPoll(t, f, 0, max(came-4, 0), all[:min(came, 4)]...)
			checkPoll(t, f, 0, 0)
		}
	}
}

// P18.1: very many come, with no Poll, and with one now and then.

func TestVeryMany(t *testing.T) {
	f := made(t, 100, 2)
	for n := range int64(1000000) {
		add(f, n)
		if n%1000 == 999 {
			checkPoll(t, f, 1, 900, from(n-99, 100)...)
		}
	}
	checkPoll(t, f, 0, 999900, from(999900, 100)...)
	checkPoll(t, f, 1, 0)
}
