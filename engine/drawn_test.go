package engine_test

import (
	"math"
	"regexp"
	"slices"
	"strconv"
	"strings"
	"testing"

	"spinet/api"
	"spinet/engine"
	"spinet/macro"
	"spinet/table"
	"spinet/tree"
)

// letters are the states' Kinds, from Atomic on.
const letters = "ACPFSD"

// nest is a Compound with a Parallel of three regions, the second one being a
// Parallel, too, and with a history in each:
//
//	0 C
//	  1 A
//	  2 C
//	    3 P
//	      4 C
//	        5 A
//	        6 A
//	        7 S
//	      8 P
//	        9 C
//	          10 A
//	          11 F
//	        12 A
//	        13 D, for 11
//	      14 C
//	        15 A
//	        16 C
//	          17 A
//	          18 F
//	        19 D, for 17
//	    20 S
//	    21 A
//	  22 F
const nest = "C(A C(P(C(A A S) P(C(A F) A D11) C(A C(A F) D17)) S A) F)"

// inner is a whole set of nest: its leaves are 5, 10, 12 and 17.
var inner = set(0, 2, 3, 4, 5, 8, 9, 10, 12, 14, 16, 17)

// smallest has no more than it must.
const smallest = "C(A)"

// chain is 24 states, each in the one ahead of it, Compounds and an Atomic.
func chain() string { return strings.Repeat("C(", 23) + "A" + strings.Repeat(")", 23) }

// mixed is such a chain in which each second state but the last is a Parallel.
func mixed() string { return strings.Repeat("C(P(", 11) + "C(A" + strings.Repeat(")", 23) }

// flat is a first state with 23 children.
func flat() string { return "C(" + strings.Repeat("A", 22) + "F)" }

// wide is a Parallel with 22 children.
func wide() string { return "C(P(" + strings.Repeat("A", 22) + "))" }

// drawn is the chart with three variables that is written so: of each state its
// Kind's letter, its Initial, where that isn't the first one that may be, and its
// children behind it, in brackets.
func drawn(s string, trans ...api.Trans) api.Chart {
	c := api.Chart{Vars: 3, Trans: trans}
	outer := -1
	for _, word := range words.FindAllString(s, -1) {
		switch word {
		case "(":
			outer = len(c.States) - 1
		case ")":
			outer = c.States[outer].Parent
		default:
			one := api.State{Kind: 1 + strings.IndexByte(letters, word[0]), Parent: outer}
			if first, err := strconv.Atoi(word[1:]); err == nil {
				one.Initial = []int{first}
			}
			c.States = append(c.States, one)
		}
	}
	begin(c)
	return c
}

var words = regexp.MustCompile("[" + letters + "][0-9]*|[()]")

// begin gives Initial to each state that needs it, and has none.
func begin(c api.Chart) {
	for s := range c.States {
		one := &c.States[s]
		switch {
		case len(one.Initial) > 0:
		case one.Kind == api.Compound:
			one.Initial = firstKid(c, s)
		case isHistory(one.Kind):
			one.Initial = firstKid(c, one.Parent)
		}
	}
}

func firstKid(c api.Chart, s int) []int {
	for k, one := range c.States {
		if one.Parent == s && !isHistory(one.Kind) {
			return []int{k}
		}
	}
	return nil
}

func isHistory(kind int) bool { return kind == api.Shallow || kind == api.Deep }

// loud gives all of a chart actions that tell where they were done: a state's
// Entry logs its number and 100, its Exit its number and 200, a transition's Acts,
// ahead of what they have, its number and 300.
func loud(c api.Chart) api.Chart {
	for s := range c.States {
		if one := &c.States[s]; !isHistory(one.Kind) {
			one.Entry, one.Exit = noise(100+s), noise(200+s)
		}
	}
	for i := range c.Trans {
		c.Trans[i].Acts = append(noise(300+i), c.Trans[i].Acts...)
	}
	return c
}

func noise(n int) []api.Act { return []api.Act{log(strconv.Itoa(n))} }

func log(e string) api.Act    { return api.Act{Kind: api.Log, Expr: e} }
func raise(event int) api.Act { return api.Act{Kind: api.Raise, N: event} }

// raises are actions that raise these.
func raises(events ...int) []api.Act {
	var l []api.Act
	for _, event := range events {
		l = append(l, raise(event))
	}
	return l
}

func assign(place int, e string) api.Act { return api.Act{Kind: api.Assign, N: place, Expr: e} }

// on is a transition for an event; when is one with a Guard, does one with
// Acts, within one that is Internal.
func on(event, source int, targets ...int) api.Trans {
	return api.Trans{Source: source, Event: event, Targets: targets}
}

func when(guard string, one api.Trans) api.Trans {
	one.Guard = guard
	return one
}

func does(one api.Trans, acts ...api.Act) api.Trans {
	one.Acts = acts
	return one
}

func within(one api.Trans) api.Trans {
	one.Internal = true
	return one
}

// twin is a chart's table, and its tree.
type twin struct {
	*table.Table
	tree *tree.Tree
}

func made(t testing.TB, c api.Chart) twin {
	t.Helper()
	one, err := table.New(c)
	where, failed := tree.New(c)
	if err != nil || failed != nil {
		t.Fatalf("New(%v): %v, %v, want a table and a tree", c, err, failed)
	}
	return twin{one, where}
}

// loudly is of such a chart with actions that tell where they were done.
func loudly(t testing.TB, s string, trans ...api.Trans) twin {
	t.Helper()
	return made(t, loud(drawn(s, trans...)))
}

// quietly is of such a chart with no other actions than transitions have.
func quietly(t testing.TB, s string, trans ...api.Trans) twin {
	t.Helper()
	return made(t, drawn(s, trans...))
}

// full has the bits of all states, and of some that aren't there.
const full = uint32(math.MaxUint32)

// set has the bits of these.
func set(l ...int) uint32 {
	var set uint32
	for _, s := range l {
		set |= 1 << s
	}
	return set
}

// members are those whose bits a set has.
func members(set uint32) []int {
	var l []int
	for s := range 32 {
		if set>>s&1 == 1 {
			l = append(l, s)
		}
	}
	return l
}

// session is how one stands, and what went out.
type session struct {
	api.Run
	outs []api.Out
}

// standing is one of which nothing else is to be told than what is active.
func standing(one twin, conf uint32) session {
	c := one.Chart()
	return session{Run: api.Run{Conf: conf, Hist: make([]uint32, len(c.States)), Env: make([]int64, c.Vars), Status: api.Going}}
}

// Each of these is one that stands so, too, and shares no list with it.

func (s session) keeps(h int, of ...int) session {
	s.Hist = slices.Clone(s.Hist)
	s.Hist[h] = set(of...)
	return s
}

func (s session) histories(hist ...uint32) session {
	s.Hist = hist
	return s
}

func (s session) with(env ...int64) session {
	s.Env = env
	return s
}

func (s session) inside(events ...int) session {
	s.Inner = slices.Concat(s.Inner, events)
	return s
}

func (s session) as(status int) session {
	s.Status = status
	return s
}

func (s session) logs(numbers ...int64) session {
	s.outs = slices.Clone(s.outs)
	for _, n := range numbers {
		s.outs = append(s.outs, api.Out{Kind: api.Log, To: n})
	}
	return s
}

// equals holds lists of no elements for the same, nil or empty.
func (s session) equals(a session) bool {
	return s.Conf == a.Conf && s.Status == a.Status && slices.Equal(s.Hist, a.Hist) &&
		slices.Equal(s.Env, a.Env) && slices.Equal(s.Inner, a.Inner) && slices.Equal(s.outs, a.outs)
}

func started(one twin) session {
	r, outs := engine.Start(one.Table)
	return session{r, outs}
}

// taken is what it comes to by an event.
func (s session) taken(one twin, event int) session {
	r, outs := engine.Take(one.Table, s.Run, event)
	return session{r, outs}
}

// walked and walkedOn are what layer 13 tells.

func walked(one twin) session {
	r, outs := macro.Start(one.tree)
	return session{r, outs}
}

func (s session) walkedOn(one twin, event int) session {
	r, outs := macro.Take(one.tree, s.Run, event)
	return session{r, outs}
}

func checkSame(t *testing.T, what string, got, want session) {
	t.Helper()
	if !got.equals(want) {
		t.Errorf("%s\n%v,\nwant\n%v\nactive %v, want %v", what, got, want, members(got.Conf), members(want.Conf))
	}
}

// checkStart and checkTake hold what is told against what was written by hand, and
// that against what layer 13 tells.

func checkStart(t *testing.T, one twin, want session) {
	t.Helper()
	checkSame(t, "start", started(one), want)
	checkSame(t, "start by layer 13", walked(one), want)
}

func checkTake(t *testing.T, one twin, s session, event int, want session) {
	t.Helper()
	checkSame(t, "event "+strconv.Itoa(event), s.taken(one, event), want)
	checkSame(t, "by layer 13 event "+strconv.Itoa(event), s.walkedOn(one, event), want)
}

// done is the event that tells of a state that what is in it is done.
func done(s int) int { return api.EventDone + s }
