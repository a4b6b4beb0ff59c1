package act_test

import (
	"slices"
	"testing"

	"spinet/api"
	"spinet/expr"
)

// A second reading of the chapter, from the last action backwards: what a list
// comes to is what all but its last action come to, and then that one. What an
// Expr is worth is told beside it, and not found by layer 4.

// worth is an Expr, with how many variables it needs, and what it is worth of
// these: no number, if it has none.
type worth struct {
	text  string
	needs int
	of    func(v []int64) (int64, bool)
}

var worths = []worth{
	{"0", 0, is(0)},
	{"7", 0, is(7)},
	{"-1", 0, is(-1)},
	{"a", 1, func(v []int64) (int64, bool) { return v[0], true }},
	{"b", 2, func(v []int64) (int64, bool) { return v[1], true }},
	{"c-a", 3, func(v []int64) (int64, bool) { return v[2] - v[0], true }},
	{"a+1", 1, func(v []int64) (int64, bool) { return v[0] + 1, true }},
	{"b*b", 2, func(v []int64) (int64, bool) { return v[1] * v[1], true }},
	{"12/a", 1, func(v []int64) (int64, bool) { return over(12, v[0]) }},
	{"a/b", 2, func(v []int64) (int64, bool) { return over(v[0], v[1]) }},
	{"true", 0, isNone},
	{"a<b", 2, isNone},
	{"a+true", 1, isNone},
	{"", 0, isNone},
	{"a b", 0, isNone},
}

func is(n int64) func([]int64) (int64, bool) {
	return func([]int64) (int64, bool) { return n, true }
}

func isNone([]int64) (int64, bool) { return 0, false }

func over(x, y int64) (int64, bool) {
	if y == 0 {
		return 0, false
	}
	return x / y, true
}

// worthOf asks layer 4 for an Expr that isn't told above.
func worthOf(text string, vars []int64) (int64, bool) {
	for _, w := range worths {
		if w.text != text {
			continue
		}
		if len(vars) < w.needs {
			return 0, false
		}
		return w.of(vars)
	}
	v, err := expr.Of(text, vars)
	return v.N, err == nil && v.Kind == api.Int
}

// read is what actions tell, and whether there was a mishap.
func read(l []api.Act, env []int64) (told, bool) {
	if len(l) == 0 {
		return left(slices.Clone(env)...), false
	}
	last := len(l) - 1
	w, mishap := read(l[:last], env)
	if mishap {
		return w, true
	}
	return w.then(l[last])
}

// then is what one action more comes to.
func (w told) then(a api.Act) (told, bool) {
	n, ok := worthOf(a.Expr, w.vars)
	switch a.Kind {
	case api.Assign:
		if ok = ok && a.N >= 0 && a.N < len(w.vars); ok {
			w.vars[a.N] = n
		}
	case api.Raise:
		return w.in(a.N), false
	case api.Send:
		if ok {
			w = w.out(api.Out{Kind: api.Send, Event: a.N, Delay: a.M, To: n})
		}
	case api.Cancel:
		return w.out(api.Out{Kind: api.Cancel, To: int64(a.N)}), false
	case api.Log:
		if ok {
			w = w.out(api.Out{Kind: api.Log, To: n})
		}
	default:
		return w, false
	}
	if !ok {
		return w.in(api.EventError), true
	}
	return w, false
}

// checkByReading holds what is told against the reading, and asks P11.2 and P11.3.
func checkByReading(t *testing.T, l []api.Act, env []int64) {
	t.Helper()
	wasL, wasEnv := slices.Clone(l), slices.Clone(env)
	got := done(l, env)
	if want, _ := read(l, env); !got.equals(want) {
		t.Fatalf("Do(%v, %v) = %v, want %v", l, env, got, want)
	}
	if !slices.Equal(l, wasL) || !slices.Equal(env, wasEnv) {
		t.Fatalf("%v, %v became %v, %v", wasL, wasEnv, l, env)
	}
	checkParts(t, l, env, got)
}

// checkParts is P11.3: actions in two parts do what all do, if the first part had
// no mishap; and if it had one, no further action is done, so that all do what the
// first part does.
func checkParts(t *testing.T, l []api.Act, env []int64, all told) {
	t.Helper()
	for end := range len(l) + 1 {
		parts := done(l[:end], env)
		if _, mishap := read(l[:end], env); !mishap {
			second := done(l[end:], parts.vars)
			parts = told{second.vars, parts.outs, parts.ins}.out(second.outs...).in(second.ins...)
		}
		if !parts.equals(all) {
			t.Fatalf("%v and then %v, with %v: %v, but all at once: %v", l[:end], l[end:], env, parts, all)
		}
	}
}

// pool are actions: of each Kind, and of none.
func pool() []api.Act {
	l := acts(raise(5), raise(api.EventError), cancel(6), api.Act{Kind: api.Cancel, N: -6, M: 2, Expr: "?"}, api.Act{Expr: "a"}, api.Act{Kind: 6, N: 1})
	for _, text := range []string{"7", "a", "a/b", "true", ""} {
		l = append(l, assign(0, text), assign(1, text), send(1, 2, text), log(text))
	}
	return append(l, assign(0, "a+1"), assign(1, "0"), assign(2, "c-a"), assign(-1, "7"), assign(3, "7"))
}

// P11.1, P11.3: all lists of up to three of these.

func TestAllShortLists(t *testing.T) {
	all, count := pool(), 0
	var grow func(l []api.Act, more int)
	grow = func(l []api.Act, more int) {
		count++
		checkByReading(t, l, []int64{3, 2, 1})
		checkByReading(t, l, []int64{3})
		if more == 0 {
			return
		}
		for _, one := range all {
			grow(append(slices.Clip(l), one), more-1)
		}
	}
	grow(nil, 3)
	if count < 20_000 {
		t.Errorf("%d lists", count)
	}
}

// All orders of one action of each Kind, with one of none.

func TestAllOrders(t *testing.T) {
	all := acts(assign(0, "a+b"), raise(5), send(1, 2, "a"), cancel(3), log("a*b"), assign(1, "a-b"), api.Act{Kind: 9})
	count := 0
	var grow func(l, rest []api.Act)
	grow = func(l, rest []api.Act) {
		if len(rest) == 0 {
			count++
			checkByReading(t, l, []int64{5, 2})
		}
		for k, one := range rest {
			grow(append(slices.Clip(l), one), slices.Delete(slices.Clone(rest), k, k+1))
		}
	}
	grow(nil, all)
	if count != 5040 {
		t.Errorf("%d orders", count)
	}
}

// maker makes actions and variables by a fixed rule.
type maker struct{ x uint32 }

func (m *maker) below(n int) int {
	m.x = m.x*1664525 + 1013904223
	return int(m.x>>16) % n
}

// act has a number as often as it may have none.
func (m *maker) act() api.Act {
	a := api.Act{Kind: m.below(8) - 1, N: m.below(10), M: m.below(3), Expr: worths[m.below(len(worths))].text}
	if m.below(2) == 0 {
		a.Expr = worths[m.below(7)].text
	}
	if a.Kind == api.Assign && m.below(8) > 0 {
		a.N = m.below(3)
	}
	return a
}

func (m *maker) list(size int) []api.Act {
	var l []api.Act
	for range size {
		l = append(l, m.act())
	}
	return l
}

// env has three variables, or more, or too few.
func (m *maker) env() []int64 {
	env := make([]int64, []int{3, 3, 3, 3, 4, 8, 10, 2, 1, 0}[m.below(10)])
	for k := range env {
		env[k] = int64(m.below(7) - 2)
		if m.below(20) == 0 {
			env[k] = []int64{least, greatest}[m.below(2)]
		}
	}
	return env
}

// Longer lists, by a fixed rule. What was met is counted, so that it is sure to
// have been there.

func TestLongerLists(t *testing.T) {
	whole, broken, late := 0, 0, 0
	for seed := range uint32(20_000) {
		m := maker{x: seed*2654435761 + 1}
		l, env := m.list(m.below(20)), m.env()
		checkByReading(t, l, env)
		w, mishap := read(l, env)
		switch {
		case !mishap:
			whole++
		case len(w.outs)+len(w.ins) > 5:
			late++
		default:
			broken++
		}
	}
	if whole < 4000 || broken < 4000 || late < 1000 {
		t.Errorf("just %d without a mishap, %d with one, and %d with a late one", whole, broken, late)
	}
}

// P1, P11.1, P11.3: whatever actions and variables there are.

func FuzzDo(f *testing.F) {
	f.Add(uint32(1), 1, 0, 0, "a+1", int64(3), int64(4))
	f.Add(uint32(7), 3, -1, 1001, "a/b", int64(3), int64(0))
	f.Add(uint32(9), 6, 1<<40, -1<<40, "\xff", int64(least), int64(greatest))
	f.Fuzz(func(t *testing.T, seed uint32, kind, n, m int, text string, a, b int64) {
		mk := maker{x: seed}
		one := api.Act{Kind: kind, N: n, M: m, Expr: text}
		env := []int64{a, b, a ^ b}[:mk.below(4)]
		l := slices.Concat(mk.list(mk.below(4)), acts(one, assign(mk.below(3), text), send(n, m, text)), mk.list(mk.below(4)), acts(log(text), one))
		checkByReading(t, l, env)
		checkByReading(t, acts(one), env)
		checkByReading(t, acts(assign(n, text), log("a")), env)
	})
}
