package enter

import (
	"spinet/api"
	"spinet/tree"
)

// entry is a set to which states are added.
type entry struct {
	standIns
	tree  *tree.Tree
	set   uint32
	below uint32 // of which states what is below them was added, or is being added
}

// addBelow adds nothing a second time: it would add what is there already, and
// histories that stand for each other would come to no end.
func (e *entry) addBelow(s int) {
	if !e.has(s) || e.below&bit(s) != 0 {
		return
	}
	e.below |= bit(s)
	one := e.states[s]
	if isHistory(one.Kind) {
		e.addAll(e.of(s), one.Parent)
		return
	}
	e.set |= bit(s)
	switch one.Kind {
	case api.Compound:
		e.addAll(one.Initial, s)
	case api.Parallel:
		e.addKids(s)
	}
}

// addAll adds all that is below them ahead of anything above one of them: what
// is above fills just those children of Parallels that have nothing.
func (e *entry) addAll(l []int, top int) {
	for _, s := range l {
		e.addBelow(s)
	}
	for _, s := range l {
		e.addAbove(s, top)
	}
}

// addAbove goes as far as the first state, with it, where s isn't in top.
func (e *entry) addAbove(s, top int) {
	for _, p := range e.tree.Up(s) {
		if p == top {
			return
		}
		e.set |= bit(p)
		if e.states[p].Kind == api.Parallel {
			e.addKids(p)
		}
	}
}

// addKids adds what is below those of a Parallel's children that have nothing.
func (e *entry) addKids(p int) {
	for _, k := range e.members(e.tree.Kids(p)) {
		if e.set&e.tree.Below(k) == 0 {
			e.addBelow(k)
		}
	}
}
