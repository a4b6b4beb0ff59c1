package engine_test

import (
	"testing"

	"spinet/api"
	"spinet/table"
)

// eachChart hands on all charts of so many states, of each Kind, with each Initial
// that may be, and tells how many there are.
func eachChart(size int, hand func(api.Chart)) int {
	charts := 0
	growAll([]api.State{{Kind: api.Compound, Parent: -1}}, size, func(c api.Chart) {
		if one, err := table.New(c); err == nil && one != nil {
			hand(c)
			charts++
		}
	})
	return charts
}

// P15.1, P15.3: all charts of up to three states, with each two transitions of one
// Target, or none, for event 0, for one that comes from outside and is raised by
// both, and for what is done: their starts, and some events.

func TestEachTwoTransitions(t *testing.T) {
	charts := 0
	for size := 2; size <= 3; size++ {
		eachChart(size, func(c api.Chart) {
			c.Vars = 1
			all := someTransitions(reading{c})
			for _, a := range all {
				for _, b := range all {
					c.Trans = []api.Trans{a, b}
					checkEvents(t, reading{loud(reading{c}.again())})
					charts++
				}
			}
		})
	}
	if charts < 2000 {
		t.Errorf("just %d charts", charts)
	}
}

func checkEvents(t *testing.T, r reading) {
	t.Helper()
	one := made(t, r.Chart)
	s := checkStartByWalk(t, one, r)
	for _, event := range []int{7, 7, 0, done(1)} {
		s = checkTakeByWalk(t, one, r, s.Run, event)
	}
}

// someTransitions are all of one Target, or none: those for event 0 are taken as
// long as the first variable isn't 3, one of those for 7 raises it.
func someTransitions(r reading) []api.Trans {
	var all []api.Trans
	for _, one := range eachTransition(r) {
		zero, seven, finished := one, one, one
		zero.Guard = "not a==3"
		seven.Event, finished.Event = 7, done(1)
		all = append(all, does(zero, assign(0, "a+1")), does(seven, raise(7)), seven, finished)
	}
	return all
}

// eachTransition are all for event 0 of one Target, or none, from each Source.
func eachTransition(r reading) []api.Trans {
	var all []api.Trans
	for _, s := range r.sources() {
		all = append(all, on(0, s))
		for target := 1; target < len(r.States); target++ {
			all = append(all, on(0, s, target))
			if r.isA(s, api.Compound) {
				all = append(all, within(on(0, s, target)))
			}
		}
	}
	return all
}

// P15.1: all charts of up to four states, with each transition of one Target, or
// none, Internal or not, from each whole set that has its Source, and for each set
// of a history of which layer 8 says something.

func TestEachTransition(t *testing.T) {
	takes := 0
	for size := 2; size <= 5; size++ {
		eachChart(size, func(c api.Chart) {
			takes += checkEachTransition(t, reading{c})
		})
	}
	if takes < 90000 {
		t.Errorf("just %d events", takes)
	}
}

// checkEachTransition has the transitions for an event each, and tells how many
// events it asked for.
func checkEachTransition(t *testing.T, r reading) int {
	t.Helper()
	takes := 0
	all := eachTransition(r)
	for len(all) > 0 {
		n := min(len(all), api.MaxTrans)
		r.Trans, all = all[:n:n], all[n:]
		for i := range r.Trans {
			r.Trans[i].Event = 1 + i
		}
		one := made(t, loud(reading{r.again()}.again()))
		checkStartByWalk(t, one, r)
		r.wholes(0, 0, func(conf uint32) {
			r.eachHistory(func(hist []uint32) {
				for i, trans := range r.Trans {
					if conf>>trans.Source&1 == 1 {
						run := standing(one, conf).histories(hist...).Run
						checkTakeByWalk(t, one, r, run, 1+i)
						takes++
					}
				}
			})
		})
	}
	return takes
}

// eachHistory hands on lists in which one history, or none, has a set, each set
// that it may have.
func (r reading) eachHistory(hand func([]uint32)) {
	hand(make([]uint32, len(r.States)))
	for h, one := range r.States {
		if !isHistory(one.Kind) {
			continue
		}
		may := r.mayKeep(h)
		for of := may; of != 0; of = (of - 1) & may {
			hist := make([]uint32, len(r.States))
			hist[h] = of
			hand(hist)
		}
	}
}
