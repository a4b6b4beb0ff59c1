package engine

import (
	"iter"
	"math/bits"
)

func bit(s int) uint32 { return 1 << s }

// greatest is a set's last state: none, if it is empty. Of those that one state is
// in it is the innermost, as a state stands behind all that it is in.
func greatest(set uint32) int { return bits.Len32(set) - 1 }

// rising are a set's states, from the least number on.
func rising(set uint32) iter.Seq[int] {
	return func(yield func(int) bool) {
		for rest := set; rest != 0; rest &= rest - 1 {
			if !yield(bits.TrailingZeros32(rest)) {
				return
			}
		}
	}
}

// falling are a set's states, from the greatest number on.
func falling(set uint32) iter.Seq[int] {
	return func(yield func(int) bool) {
		for rest := set; rest != 0; rest &^= bit(greatest(rest)) {
			if !yield(greatest(rest)) {
				return
			}
		}
	}
}
