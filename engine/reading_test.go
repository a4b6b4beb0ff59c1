package engine_test

import (
	"slices"

	"spinet/api"
)

// reading is a chart that may be, asked by Parents alone.
type reading struct{ api.Chart }

// in is whether a state is in another one.
func (r reading) in(a, b int) bool {
	parent := r.States[a].Parent
	return parent >= 0 && (parent == b || r.in(parent, b))
}

// allIn are all states in a state.
func (r reading) allIn(s int) []int {
	var l []int
	for k := range r.States {
		if r.in(k, s) {
			l = append(l, k)
		}
	}
	return l
}

func (r reading) isA(s int, kinds ...int) bool { return slices.Contains(kinds, r.States[s].Kind) }

// kids are a state's children, but for histories.
func (r reading) kids(s int) []int {
	return slices.DeleteFunc(r.allIn(s), func(k int) bool { return r.States[k].Parent != s || isHistory(r.States[k].Kind) })
}

// sources are those that transitions may be from.
func (r reading) sources() []int {
	var l []int
	for s := 1; s < len(r.States); s++ {
		if r.isA(s, api.Atomic, api.Compound, api.Parallel) {
			l = append(l, s)
		}
	}
	return l
}

// ends are those that are Final in the first state.
func (r reading) ends() []int {
	return slices.DeleteFunc(r.kids(0), func(s int) bool { return !r.isA(s, api.Final) })
}

// areApart is whether two may be Targets of one transition.
func (r reading) areApart(a, b int) bool {
	a, b = r.counted(a), r.counted(b)
	if a == b || r.in(a, b) || r.in(b, a) {
		return false
	}
	outer := r.States[a].Parent
	for !r.in(b, outer) {
		outer = r.States[outer].Parent
	}
	return r.isA(outer, api.Parallel)
}

func (r reading) counted(s int) int {
	if isHistory(r.States[s].Kind) {
		return r.States[s].Parent
	}
	return s
}

// initials are all states that a state's Initial may be.
func (r reading) initials(s int) []int {
	outer := s
	if isHistory(r.States[s].Kind) {
		outer = r.States[s].Parent
	} else if !r.isA(s, api.Compound) {
		return nil
	}
	return slices.DeleteFunc(r.allIn(outer), func(k int) bool {
		return isHistory(r.States[k].Kind) || r.isA(s, api.Shallow) && r.States[k].Parent != outer
	})
}

// mayKeep are all states of which layer 8 says something where a history's set has
// them: of a Shallow one all children, histories too.
func (r reading) mayKeep(h int) uint32 {
	outer := r.States[h].Parent
	return set(slices.DeleteFunc(r.allIn(outer), func(k int) bool {
		if r.isA(h, api.Shallow) {
			return r.States[k].Parent != outer
		}
		return !r.isA(k, api.Atomic, api.Final)
	})...)
}

// wholes hands on all whole sets of what is in a state, with it.
func (r reading) wholes(s int, set uint32, hand func(uint32)) {
	set |= 1 << s
	switch kids := r.kids(s); r.States[s].Kind {
	case api.Compound:
		for _, k := range kids {
			r.wholes(k, set, hand)
		}
	case api.Parallel:
		r.wholesOf(kids, set, hand)
	default:
		hand(set)
	}
}

func (r reading) wholesOf(kids []int, set uint32, hand func(uint32)) {
	if len(kids) == 0 {
		hand(set)
		return
	}
	r.wholes(kids[0], set, func(with uint32) { r.wholesOf(kids[1:], with, hand) })
}

// isWhole is whether each Compound of a set has one child in it, each Parallel all,
// and each state its Parent.
func (r reading) isWhole(conf uint32) bool {
	for s, one := range r.States {
		has := conf>>s&1 == 1
		n := len(members(conf & set(r.kids(s)...)))
		switch {
		case has && (isHistory(one.Kind) || s > 0 && conf>>one.Parent&1 == 0):
			return false
		case has && one.Kind == api.Compound && n != 1:
			return false
		case has && one.Kind == api.Parallel && n != len(r.kids(s)):
			return false
		}
	}
	return conf&1 == 1 && conf>>len(r.States) == 0
}

// growAll hands on all charts of so many states that begin with these, each of the
// others in the one ahead of it, or in one that that is in, with each Initial.
func growAll(states []api.State, size int, check func(api.Chart)) {
	if len(states) == size {
		eachInitial(api.Chart{States: slices.Clone(states)}, 0, check)
		return
	}
	for parent := len(states) - 1; parent >= 0; parent = states[parent].Parent {
		for kind := api.Atomic; kind <= api.Deep; kind++ {
			growAll(append(slices.Clip(states), api.State{Kind: kind, Parent: parent}), size, check)
		}
	}
}

// eachInitial gives the states from s on each Initial that they may have.
func eachInitial(c api.Chart, s int, check func(api.Chart)) {
	if s == len(c.States) {
		check(c)
		return
	}
	of := (reading{c}).initials(s)
	if len(of) == 0 {
		eachInitial(c, s+1, check)
	}
	for _, first := range of {
		c.States = slices.Clone(c.States)
		c.States[s].Initial = []int{first}
		eachInitial(c, s+1, check)
	}
}

// again is the chart in lists of its own.
func (r reading) again() api.Chart {
	c := r.Chart
	c.States, c.Trans = slices.Clone(c.States), slices.Clone(c.Trans)
	return c
}
