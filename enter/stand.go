package enter

import (
	"spinet/api"
	"spinet/tree"
)

// standIns are states, and the sets of those that are histories.
type standIns struct {
	states []api.State
	hist   []uint32
}

func standInsOf(t *tree.Tree, hist []uint32) standIns {
	return standIns{states: t.Chart().States, hist: hist}
}

// real has each state once, where it comes first.
func (i standIns) real(l []int) []int {
	var all []int
	var seen uint32
	for _, s := range l {
		for _, one := range i.of(s) {
			if seen&bit(one) == 0 {
				seen |= bit(one)
				all = append(all, one)
			}
		}
	}
	return all
}

// of is what a state stands for, rising: itself, if it is no history; nothing,
// if it isn't there.
func (i standIns) of(s int) []int {
	switch {
	case !i.has(s):
		return nil
	case !isHistory(i.states[s].Kind):
		return []int{s}
	case s < len(i.hist) && i.hist[s] != 0:
		return i.members(i.hist[s])
	}
	return i.states[s].Initial
}

// members leaves out the bits of states that aren't there.
func (i standIns) members(set uint32) []int {
	var l []int
	for s := range i.states {
		if set&bit(s) != 0 {
			l = append(l, s)
		}
	}
	return l
}

func (i standIns) has(s int) bool { return 0 <= s && s < len(i.states) }

func isHistory(kind int) bool { return kind == api.Shallow || kind == api.Deep }

func bit(s int) uint32 { return 1 << s }
