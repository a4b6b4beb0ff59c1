package table_test

import (
	"slices"
	"testing"

	"spinet/api"
	"spinet/choose"
	"spinet/enter"
	"spinet/expr"
	"spinet/micro"
	"spinet/table"
	"spinet/tree"
)

// A second reading of the chapter: what is entered by default is found from the
// outside in, with an aim: in a Compound it goes on with the child that is the
// aim, or that the aim is in; where there is none, or it is reached, the
// Compound's Initial becomes it. In a Parallel it goes on with each child, with
// the aim where it is in that one. No child is asked what is in it already.

// reading is a chart that may be, with the number behind the last state that is
// in each.
type reading struct {
	api.Chart
	end []int
}

func read(c api.Chart) reading {
	r := reading{Chart: c, end: make([]int, len(c.States))}
	for s := len(c.States) - 1; s >= 0; s-- {
		r.end[s] = max(r.end[s], s+1)
		if s > 0 {
			outer := c.States[s].Parent
			r.end[outer] = max(r.end[outer], r.end[s])
		}
	}
	return r
}

func (r reading) has(s int) bool { return 0 <= s && s < len(r.States) }

func (r reading) in(a, b int) bool { return b < a && a < r.end[b] }

func (r reading) isA(s int, kinds ...int) bool { return slices.Contains(kinds, r.States[s].Kind) }

// those are all states for which that holds; none, if a state isn't there.
func (r reading) those(s int, holds func(int) bool) []int {
	var l []int
	for k := range r.States {
		if r.has(s) && holds(k) {
			l = append(l, k)
		}
	}
	return l
}

func (r reading) up(s int) []int {
	return r.those(s, func(k int) bool { return r.in(s, k) })
}

func (r reading) below(s int) []int {
	return r.those(s, func(k int) bool { return r.in(k, s) && !isHistory(r.States[k].Kind) })
}

func (r reading) kids(s int) []int {
	return r.those(s, func(k int) bool { return r.States[k].Parent == s && !isHistory(r.States[k].Kind) })
}

const noAim = -1

func (r reading) entered(s int) []int {
	if !r.has(s) || isHistory(r.States[s].Kind) {
		return nil
	}
	return r.inward(s, noAim)
}

// inward is all that is entered from a state on, on the way to an aim.
func (r reading) inward(s, aim int) []int {
	l := []int{s}
	if r.isA(s, api.Compound) && (aim == noAim || aim == s) {
		aim = r.States[s].Initial[0]
	}
	for _, k := range r.kids(s) {
		switch {
		case aim != noAim && (aim == k || r.in(aim, k)):
			l = append(l, r.inward(k, aim)...)
		case r.isA(s, api.Parallel):
			l = append(l, r.inward(k, noAim)...)
		}
	}
	return l
}

func (r reading) from(s int) []int {
	var l []int
	for i, one := range r.Trans {
		if one.Source == s && r.has(s) {
			l = append(l, i)
		}
	}
	return l
}

// guard is one, with how many variables it needs, and, of these, whether it has
// an error, and, if it has none, whether it is true.
type guard struct {
	text   string
	needs  int
	fails  func(v []int64) bool
	isTrue func(v []int64) bool
}

func guards() []guard {
	return []guard{
		{"", 0, never, always},
		{"true", 0, never, always},
		{"false", 0, never, never},
		{"1/0==1", 0, always, never},
		{"a<b", 2, never, func(v []int64) bool { return v[0] < v[1] }},
		{"a==0", 1, never, func(v []int64) bool { return v[0] == 0 }},
		{"6/b==3", 2, func(v []int64) bool { return v[1] == 0 }, func(v []int64) bool { return v[1] == 2 }},
		{"b%c!=0 or a<0", 3, func(v []int64) bool { return v[2] == 0 }, func(v []int64) bool { return v[1]%v[2] != 0 || v[0] < 0 }},
		{"not c==c", 3, never, never},
	}
}

func always([]int64) bool { return true }

func never([]int64) bool { return false }

func (r reading) guard(i int, env []int64) (bool, bool) {
	if i < 0 || i >= len(r.Trans) {
		return false, false
	}
	of := guards()
	one := of[slices.IndexFunc(of, func(g guard) bool { return g.text == r.Trans[i].Guard })]
	if len(env) < one.needs || one.fails(env) {
		return false, true
	}
	return one.isTrue(env), false
}

// checkByReading holds what a table tells of a state against the reading.
func checkByReading(t *testing.T, one *table.Table, r reading, s int) {
	t.Helper()
	if one.Up(s) != set(r.up(s)...) || one.Below(s) != set(r.below(s)...) || one.Kids(s) != set(r.kids(s)...) {
		t.Fatalf("of %d in %v: Up %v, Below %v, Kids %v", s, r.States, members(one.Up(s)), members(one.Below(s)), members(one.Kids(s)))
	}
	if got := one.Default(s); got != set(r.entered(s)...) {
		t.Fatalf("Default(%d) = %v, want %v, in %v", s, members(got), r.entered(s), r.States)
	}
	if got := one.From(s); !slices.Equal(got, r.from(s)) {
		t.Fatalf("From(%d) = %v, want %v, in %v", s, got, r.from(s), r.Trans)
	}
}

func checkGuardByReading(t *testing.T, one *table.Table, r reading, i int, env []int64) {
	t.Helper()
	holds, mishap := one.Guard(i, env)
	if h, m := r.guard(i, env); holds != h || mishap != m {
		t.Fatalf("Guard(%d, %v) = %v, %v, want %v, %v%s", i, env, holds, mishap, h, m, about(one, i))
	}
}

// P14.4: Up, Below and Kids are the tree's; Default is what is entered for a state
// up to it, and it; and, of the first state, what is active at first.

func checkByTree(t *testing.T, one *table.Table, c api.Chart) {
	t.Helper()
	where, err := tree.New(c)
	if err != nil {
		t.Fatal(err)
	}
	for s := -1; s <= len(c.States); s++ {
		if one.Up(s) != set(where.Up(s)...) || one.Below(s) != where.Below(s) || one.Kids(s) != where.Kids(s) {
			t.Fatalf("of %d in %v: Up %v, Below %v, Kids %v", s, c.States, members(one.Up(s)), members(one.Below(s)), members(one.Kids(s)))
		}
	}
	for s := range c.States {
		checkEntered(t, one, where, c, s)
	}
	if first, _ := micro.First(where); one.Default(0) != first.Conf {
		t.Fatalf("Default(0) = %v, at first %v are active", members(one.Default(0)), members(first.Conf))
	}
}

// checkEntered holds it against layer 8's, for a Compound's Initial and a
// Parallel's children up to it, and for the state itself up to its Parent.
func checkEntered(t *testing.T, one *table.Table, where *tree.Tree, c api.Chart, s int) {
	t.Helper()
	if isHistory(c.States[s].Kind) {
		if one.Default(s) != 0 {
			t.Fatalf("Default(%d) = %v, of a history", s, members(one.Default(s)))
		}
		return
	}
	targets := c.States[s].Initial
	if c.States[s].Kind == api.Parallel {
		targets = members(where.Kids(s))
	}
	filled := enter.Set(where, nil, s, targets) | set(s)
	if whole := enter.Set(where, nil, c.States[s].Parent, []int{s}); one.Default(s) != filled || filled != whole {
		t.Fatalf("Default(%d) = %v, entered up to it %v, and with it %v, in %v", s, members(one.Default(s)), members(filled), members(whole), c.States)
	}
}

// A Guard holds just where its transition is ready for its event (layer 10), and
// where its text is true (layer 4).

func checkGuardByLayers(t *testing.T, one *table.Table, c api.Chart, i int, env []int64) {
	t.Helper()
	where, err := tree.New(c)
	if err != nil {
		t.Fatal(err)
	}
	holds, mishap := one.Guard(i, env)
	if ready, missed := choose.Ready(where, env, i, c.Trans[i].Event); holds != ready || mishap != missed {
		t.Fatalf("Guard(%d, %v) = %v, %v, but Ready = %v, %v%s", i, env, holds, mishap, ready, missed, about(one, i))
	}
	if c.Trans[i].Guard == "" {
		return
	}
	v, err := expr.Of(c.Trans[i].Guard, env)
	if holds != (v == api.Val{Kind: api.Truth, N: 1}) || mishap != (err != nil) {
		t.Fatalf("Guard(%d, %v) = %v, %v, but it is worth %v, %v%s", i, env, holds, mishap, v, err, about(one, i))
	}
}

// All charts of up to six states, of each Kind, and of those that may be each
// Initial of each Compound; histories are as they may be.

func TestAllSmallCharts(t *testing.T) {
	charts := 0
	for size := 2; size <= 6; size++ {
		growAll([]api.State{{Kind: api.Compound, Parent: -1}}, size, func(c api.Chart) {
			begin(c)
			if _, err := table.New(c); err != nil {
				checkNoTable(t, c, err)
				return
			}
			beginAll(c, 0, func() {
				charts++
				one, r := made(t, c), read(c)
				for s := -1; s <= size; s++ {
					checkByReading(t, one, r, s)
				}
				checkByTree(t, one, c)
			})
		})
	}
	if charts < 6000 {
		t.Errorf("just %d charts", charts)
	}
}

// growAll hands on all charts of so many states that begin with these, each of
// the others in the one ahead of it, or in one that that is in.
func growAll(states []api.State, size int, check func(api.Chart)) {
	if len(states) == size {
		check(api.Chart{States: slices.Clone(states)})
		return
	}
	for parent := len(states) - 1; parent >= 0; parent = states[parent].Parent {
		for kind := api.Atomic; kind <= api.Deep; kind++ {
			growAll(append(slices.Clip(states), api.State{Kind: kind, Parent: parent}), size, check)
		}
	}
}

// beginAll gives, by turns, each Compound from one on each Initial that may be.
func beginAll(c api.Chart, s int, check func()) {
	if s == len(c.States) {
		check()
		return
	}
	if c.States[s].Kind != api.Compound {
		beginAll(c, s+1, check)
		return
	}
	for _, first := range read(c).below(s) {
		c.States[s].Initial = []int{first}
		beginAll(c, s+1, check)
	}
}

// Greater charts, by a fixed rule, with any Initials and any transitions.

func TestGreaterCharts(t *testing.T) {
	kinds, deep, through := map[int]int{}, 0, 0
	for seed := range uint32(3000) {
		m := maker{x: seed*2654435761 + 1}
		r := m.reading(2 + int(seed%23))
		one := made(t, r.Chart)
		for s := -1; s <= len(r.States); s++ {
			checkByReading(t, one, r, s)
		}
		for s := range r.States {
			kinds[r.States[s].Kind]++
			if r.isA(s, api.Compound) && r.States[r.States[s].Initial[0]].Parent != s {
				deep++
				if r.isA(r.States[r.States[s].Initial[0]].Parent, api.Parallel) {
					through++
				}
			}
		}
		checkByTree(t, one, r.Chart)
		for i := range r.Trans {
			env := m.env()
			checkGuardByReading(t, one, r, i, env)
			checkGuardByLayers(t, one, r.Chart, i, env)
		}
		checkChart(t, one, r.Chart)
	}
	for kind := api.Atomic; kind <= api.Deep; kind++ {
		if kinds[kind] < 1000 {
			t.Errorf("just %d states of Kind %d", kinds[kind], kind)
		}
	}
	if deep < 1000 || through < 500 {
		t.Errorf("just %d Initials deeper, %d of them in a Parallel", deep, through)
	}
}

// P1: whatever numbers there are.

func FuzzTable(f *testing.F) {
	f.Add(uint32(1), 0, -1, int64(1), int64(2), 3)
	f.Add(uint32(77), 1<<62, -1<<63, int64(-1<<63), int64(0), 1<<63-1)
	f.Fuzz(func(t *testing.T, seed uint32, s, i int, a, b int64, n int) {
		m := maker{x: seed}
		r := m.reading(2 + m.below(23))
		one := made(t, r.Chart)
		env := []int64{a, b, -1, 5}[:uint(n)%5]
		for k := range r.States {
			checkByReading(t, one, r, k)
		}
		for k := range r.Trans {
			checkGuardByReading(t, one, r, k, env)
			checkGuardByLayers(t, one, r.Chart, k, env)
		}
		for _, k := range []int{s, i, n} {
			checkByReading(t, one, r, k)
			checkGuardByReading(t, one, r, k, env)
		}
		checkByTree(t, one, r.Chart)
	})
}
