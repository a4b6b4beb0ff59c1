package chart

import "spinet/api"

// stateFault is the first fault of state s, or none: those ahead of it have no
// fault, those behind it may have any.
func stateFault(c api.Chart, s int) api.Code {
	switch {
	case !kindMayBe(c, s):
		return api.ErrKind
	case !parentMayBe(c, s):
		return api.ErrArg
	case !kindMayBeInParent(c, s):
		return api.ErrKind
	case needsKid(c, s) && len(Kids(c, s)) == 0:
		return api.ErrNone
	case !initialMayBe(c, s):
		return api.ErrTarget
	case !stateActsMayBe(c, s):
		return api.ErrArg
	}
	return none
}

func kindMayBe(c api.Chart, s int) bool {
	kind := c.States[s].Kind
	if s == 0 {
		return kind == api.Compound
	}
	return isFrom(kind, api.Atomic, api.Deep)
}

func parentMayBe(c api.Chart, s int) bool {
	parent := c.States[s].Parent
	if s == 0 {
		return parent == -1
	}
	return parent == s-1 || isIn(c, s-1, parent)
}

// kindMayBeInParent asks of a state whose Parent is ahead of it, or of the
// first one, which has none.
func kindMayBeInParent(c api.Chart, s int) bool {
	if s == 0 {
		return true
	}
	state := c.States[s]
	outer := c.States[state.Parent].Kind
	switch {
	case state.Kind == api.Final:
		return outer == api.Compound
	case isHistory(state.Kind) && state.Parent == 0:
		return false
	}
	return outer == api.Compound || outer == api.Parallel
}

func needsKid(c api.Chart, s int) bool {
	kind := c.States[s].Kind
	return kind == api.Compound || kind == api.Parallel
}

func initialMayBe(c api.Chart, s int) bool {
	state := c.States[s]
	if state.Kind != api.Compound && !isHistory(state.Kind) {
		return len(state.Initial) == 0
	}
	if len(state.Initial) != 1 {
		return false
	}
	first := state.Initial[0]
	if !isState(c, first) || isHistory(c.States[first].Kind) {
		return false
	}
	switch state.Kind {
	case api.Shallow:
		return c.States[first].Parent == state.Parent
	case api.Deep:
		return isIn(c, first, state.Parent)
	}
	return isIn(c, first, s)
}

func stateActsMayBe(c api.Chart, s int) bool {
	state := c.States[s]
	if isHistory(state.Kind) {
		return len(state.Entry) == 0 && len(state.Exit) == 0
	}
	return actsMayBe(state.Entry, c.Vars) && actsMayBe(state.Exit, c.Vars)
}
