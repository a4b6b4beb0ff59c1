package chart

import "spinet/api"

const maxTargets = 3

// transFault is the first fault of a transition, or none, where all states may
// be.
func transFault(c api.Chart, t api.Trans) api.Code {
	switch {
	case !sourceMayBe(c, t.Source):
		return api.ErrKind
	case !eventMayBe(c, t.Event):
		return api.ErrArg
	case !targetsMayBe(c, t.Targets):
		return api.ErrTarget
	case t.Guard != "" && !hasType(t.Guard, c.Vars, api.Truth):
		return api.ErrType
	case !actsMayBe(t.Acts, c.Vars):
		return api.ErrArg
	}
	return none
}

func isStateButFirst(c api.Chart, s int) bool { return s != 0 && isState(c, s) }

func sourceMayBe(c api.Chart, s int) bool {
	return isStateButFirst(c, s) && isFrom(c.States[s].Kind, api.Atomic, api.Parallel)
}

func eventMayBe(c api.Chart, event int) bool {
	return isFrom(event, 0, api.MaxEvent) ||
		event == api.EventError || event == api.EventComm ||
		isFrom(event, api.EventDone, api.EventDone+len(c.States)-1)
}

func targetsMayBe(c api.Chart, targets []int) bool {
	if len(targets) > maxTargets {
		return false
	}
	for _, s := range targets {
		if !isStateButFirst(c, s) {
			return false
		}
	}
	for i, a := range targets {
		for _, b := range targets[:i] {
			if !areApart(c, counted(c, a), counted(c, b)) {
				return false
			}
		}
	}
	return true
}

// counted is what a Target counts as beside another one.
func counted(c api.Chart, s int) int {
	if isHistory(c.States[s].Kind) {
		return c.States[s].Parent
	}
	return s
}

// areApart tells whether neither of two is the other one, or in it, and what
// they part in is a Parallel: so that both can be active at once.
func areApart(c api.Chart, a, b int) bool {
	if a == b || isIn(c, a, b) || isIn(c, b, a) {
		return false
	}
	for p := above(c, a); p >= 0; p = above(c, p) {
		if isIn(c, b, p) {
			return c.States[p].Kind == api.Parallel
		}
	}
	return false
}
