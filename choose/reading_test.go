package choose_test

import (
	"math"
	"slices"
	"testing"

	"spinet/api"
	"spinet/choose"
	"spinet/leave"
	"spinet/tree"
)

// A second reading of the chapter. What a leaf looks at is one row: all
// transitions for the event whose Source the leaf is, or is in, the greatest
// Source first (of two states that the leaf is in the inner one has the greater
// number); what a Guard is worth is told beside it, and not found by layer 4; and
// ones are sifted word by word, with layer 9's Clash.

// reading is a chart that may be, with the number behind the last state that is
// in each.
type reading struct {
	api.Chart
	end []int
}

func read(c api.Chart) reading {
	r := reading{Chart: c, end: make([]int, len(c.States))}
	for s := len(c.States) - 1; s >= 0; s-- {
		r.end[s] = max(r.end[s], s+1)
		if s > 0 {
			outer := c.States[s].Parent
			r.end[outer] = max(r.end[outer], r.end[s])
		}
	}
	return r
}

func (r reading) isIn(a, b int) bool { return b < a && a < r.end[b] }

func (r reading) has(i int) bool { return 0 <= i && i < len(r.Trans) }

// guard is one, with how many variables it needs, and, of these, whether it has
// an error, and, if it has none, whether it is true.
type guard struct {
	text   string
	needs  int
	fails  func(v []int64) bool
	isTrue func(v []int64) bool
}

var guards = []guard{
	{"", 0, never, always},
	{"true", 0, never, always},
	{"false", 0, never, never},
	{broken, 0, always, never},
	{"a<b", 2, never, func(v []int64) bool { return v[0] < v[1] }},
	{"a==0", 1, never, func(v []int64) bool { return v[0] == 0 }},
	{"6/b==3", 2, func(v []int64) bool { return v[1] == 0 }, func(v []int64) bool { return v[1] == 2 }},
	{"b%c!=0 or a<0", 3, func(v []int64) bool { return v[2] == 0 }, func(v []int64) bool { return v[1]%v[2] != 0 || v[0] < 0 }},
	{"not c==c", 3, never, never},
}

func always([]int64) bool { return true }

func never([]int64) bool { return false }

// ready is of one that is there, for its event.
func (r reading) ready(i int, env []int64) (bool, bool) {
	one := guards[slices.IndexFunc(guards, func(g guard) bool { return g.text == r.Trans[i].Guard })]
	if len(env) < one.needs || one.fails(env) {
		return false, true
	}
	return one.isTrue(env), false
}

// looked is the row of a leaf.
func (r reading) looked(leaf, event int) []int {
	var row []int
	for i, one := range r.Trans {
		if one.Event == event && (one.Source == leaf || r.isIn(leaf, one.Source)) {
			row = append(row, i)
		}
	}
	slices.SortStableFunc(row, func(i, k int) int { return r.Trans[k].Source - r.Trans[i].Source })
	return row
}

func (r reading) gathered(of uint32, env []int64, event int) ([]int, int) {
	var firsts []int
	mishaps := 0
	for s, one := range r.States {
		if of>>s&1 == 0 || one.Kind != api.Atomic && one.Kind != api.Final {
			continue
		}
		for _, i := range r.looked(s, event) {
			ready, mishap := r.ready(i, env)
			if mishap {
				mishaps++
			}
			if ready {
				firsts = append(firsts, i)
				break
			}
		}
	}
	return each(firsts), mishaps
}

// each is a row without those that were there ahead.
func each(row []int) []int {
	var l []int
	for k, i := range row {
		if !slices.Contains(row[:k], i) {
			l = append(l, i)
		}
	}
	return l
}

// sifted tells each once (P10.3): by the words of sifting alone one that leaves
// nothing is kept as often as it is there.
func (r reading) sifted(one *tree.Tree, of uint32, l []int) []int {
	var kept []int
next:
	for _, i := range l {
		if !r.has(i) {
			continue
		}
		var gone []int
		for _, k := range kept {
			if !leave.Clash(one, of, i, k) {
				continue
			}
			if !r.isIn(r.Trans[i].Source, r.Trans[k].Source) {
				continue next
			}
			gone = append(gone, k)
		}
		kept = append(slices.DeleteFunc(kept, func(k int) bool { return slices.Contains(gone, k) }), i)
	}
	return each(kept)
}

func checkReadyByReading(t *testing.T, one *tree.Tree, r reading, env []int64, i, event int) {
	t.Helper()
	ready, mishap := false, false
	if r.has(i) && r.Trans[i].Event == event {
		ready, mishap = r.ready(i, env)
	}
	if a, b := choose.Ready(one, env, i, event); a != ready || b != mishap {
		t.Fatalf("Ready(%v, %d, %d) = %v, %v, want %v, %v%s", env, i, event, a, b, ready, mishap, about(one, i))
	}
}

// checkRound gathers and sifts, and holds both against the reading.
func checkRound(t *testing.T, one *tree.Tree, r reading, of uint32, env []int64, event int) {
	t.Helper()
	gathered, mishaps := choose.Gather(one, of, env, event)
	want, n := r.gathered(of, env, event)
	if !slices.Equal(gathered, want) || mishaps != n {
		t.Fatalf("Gather(%v, %v, %d) = %v, %d, want %v, %d, in %v", members(of), env, event, gathered, mishaps, want, n, r.Chart)
	}
	kept := checkSiftByReading(t, one, r, of, gathered)
	checkChosen(t, one, of, env, event, gathered, kept)
}

// checkSiftByReading asks P10.3 of each list, too: of those kept no two clash, and
// none is there twice.
func checkSiftByReading(t *testing.T, one *tree.Tree, r reading, of uint32, l []int) []int {
	t.Helper()
	kept := choose.Sift(one, of, l)
	if want := r.sifted(one, of, l); !slices.Equal(kept, want) {
		t.Fatalf("Sift(%v, %v) = %v, want %v, in %v", members(of), l, kept, want, r.Chart)
	}
	for k, i := range kept {
		if !slices.Contains(l, i) || slices.Contains(kept[:k], i) {
			t.Fatalf("Sift(%v, %v) = %v, in %v", members(of), l, kept, r.Chart)
		}
		for _, other := range kept[:k] {
			if leave.Clash(one, of, i, other) {
				t.Fatalf("Sift(%v, %v) = %v, but %d and %d clash, in %v", members(of), l, kept, other, i, r.Chart)
			}
		}
	}
	return kept
}

// P10.3: of what was gathered and sifted none is there twice, each was gathered
// and is ready, and, where any was gathered, one is kept (that no two clash was
// asked).

func checkChosen(t *testing.T, one *tree.Tree, of uint32, env []int64, event int, gathered, kept []int) {
	t.Helper()
	for k, i := range gathered {
		ready, mishap := choose.Ready(one, env, i, event)
		if !ready || mishap || slices.Contains(gathered[:k], i) {
			t.Fatalf("of %v gathered is %v: %d is ready: %v%s", members(of), gathered, i, ready, about(one, i))
		}
	}
	for k, i := range kept {
		if !slices.Contains(gathered, i) || slices.Contains(kept[:k], i) {
			t.Fatalf("of %v kept is %v", gathered, kept)
		}
	}
	if len(gathered) > 0 && len(kept) == 0 {
		t.Fatalf("of %v none is kept", gathered)
	}
}

// P10.3: without Guards there is no mishap.

func checkNoMishap(t *testing.T, m *maker, r reading) {
	t.Helper()
	c := r.Chart
	c.Trans = slices.Clone(c.Trans)
	for i := range c.Trans {
		c.Trans[i].Guard = ""
	}
	one := planted(t, c)
	for _, event := range asked {
		env, of := m.env(), m.set()
		if l, n := choose.Gather(one, of, env, event); n != 0 {
			t.Fatalf("Gather(%v, %v, %d) = %v, %d, without Guards, in %v", members(of), env, event, l, n, c)
		}
		for i := range c.Trans {
			if _, mishap := choose.Ready(one, env, i, event); mishap {
				t.Fatalf("Ready(%v, %d, %d) has a mishap%s", env, i, event, about(one, i))
			}
		}
	}
}

// All charts of up to five states, of each Kind, each with one Initial, with some
// transitions: all sets of their states, with bits of others.

func TestAllSmallCharts(t *testing.T) {
	charts, m := 0, maker{x: 10}
	for size := 2; size <= 5; size++ {
		growAll([]api.State{{Kind: api.Compound, Parent: -1}}, size, func(c api.Chart) {
			if _, err := tree.New(c); err != nil {
				return
			}
			charts++
			for range 3 {
				checkSmall(t, &m, m.with(read(c), 1+m.below(12)))
			}
		})
	}
	if charts < 300 {
		t.Errorf("%d charts", charts)
	}
}

func checkSmall(t *testing.T, m *maker, r reading) {
	t.Helper()
	one, n := planted(t, r.Chart), len(r.States)
	for low := range uint32(1) << n {
		of, env := low|m.set()<<n, m.env()
		checkRound(t, one, r, of, env, 7)
		checkRound(t, one, r, of, env, m.event())
		checkSiftByReading(t, one, r, of, m.list(r))
	}
	for i := -1; i <= len(r.Trans); i++ {
		checkReadyByReading(t, one, r, m.env(), i, 7)
		checkReadyByReading(t, one, r, m.env(), i, m.event())
	}
	checkNoMishap(t, m, r)
}

// growAll hands on all charts of so many states that begin with these, each of
// the others in the one ahead of it, or in one that that is in.
func growAll(states []api.State, size int, check func(api.Chart)) {
	if len(states) == size {
		c := api.Chart{Vars: 3, States: slices.Clone(states)}
		begin(c)
		check(c)
		return
	}
	for parent := len(states) - 1; parent >= 0; parent = states[parent].Parent {
		for kind := api.Atomic; kind <= api.Deep; kind++ {
			growAll(append(slices.Clip(states), api.State{Kind: kind, Parent: parent}), size, check)
		}
	}
}

// Greater charts, by a fixed rule, with sets by that rule, too. What was met is
// counted, so that it is sure to have been there.

func TestGreaterCharts(t *testing.T) {
	var met tally
	for seed := range uint32(1200) {
		m := maker{x: seed*2654435761 + 1}
		r := m.reading(2 + int(seed%23))
		met.add(checkMade(t, &m, r))
	}
	if met.several < 4000 || met.dropped < 3000 || met.letGo < 300 || met.mishaps < 2000 || met.none < 10_000 {
		t.Errorf("just %+v", met)
	}
}

// tally counts rounds: with several gathered, with some of these not kept, with the
// first of them let go, with mishaps, and with none gathered.
type tally struct{ several, dropped, letGo, mishaps, none int }

func (a *tally) add(b tally) {
	a.several += b.several
	a.dropped += b.dropped
	a.letGo += b.letGo
	a.mishaps += b.mishaps
	a.none += b.none
}

func (a *tally) count(gathered, kept []int, mishaps int) {
	one := func(b bool) int {
		if b {
			return 1
		}
		return 0
	}
	a.several += one(len(gathered) > 1)
	a.dropped += one(len(kept) < len(gathered))
	a.letGo += one(len(gathered) > 0 && kept[0] != gathered[0])
	a.mishaps += one(mishaps > 0)
	a.none += one(len(gathered) == 0)
}

func checkMade(t *testing.T, m *maker, r reading) tally {
	t.Helper()
	one := planted(t, r.Chart)
	var met tally
	for _, event := range asked {
		for range 4 {
			of, env := m.set(), m.env()
			checkRound(t, one, r, of, env, event)
			checkSiftByReading(t, one, r, of, m.list(r))
			checkReadyByReading(t, one, r, env, m.below(len(r.Trans)+2)-1, event)
			gathered, mishaps := r.gathered(of, env, event)
			met.count(gathered, r.sifted(one, of, gathered), mishaps)
		}
	}
	checkNoMishap(t, m, r)
	return met
}

// P1, P10.1, P10.3: whatever charts, sets, variables, events and numbers there
// are.

func FuzzChoose(f *testing.F) {
	f.Add(uint32(1), full, int64(0), int64(0), 7, -1)
	f.Add(uint32(77), uint32(5), int64(math.MinInt64), int64(math.MaxInt64), 0, math.MaxInt)
	f.Fuzz(func(t *testing.T, seed, of uint32, a, b int64, event, i int) {
		m := maker{x: seed}
		r := m.reading(2 + m.below(23))
		one := planted(t, r.Chart)
		env := []int64{a, b, a ^ b}[:m.below(4)]
		checkMade(t, &m, r)
		checkReadyByReading(t, one, r, env, i, event)
		checkReadyByReading(t, one, r, env, int(uint32(i))%len(r.Trans), 7)
		checkRound(t, one, r, of, env, event)
		checkRound(t, one, r, of, env, 7)
		checkSiftByReading(t, one, r, of, append(m.list(r), i, event))
	})
}
