package engine

import (
	"spinet/api"
	"spinet/table"
)

const (
	first = 0  // the first state's number
	none  = -1 // what stands for a state or a transition where there is none
)

// plan is a table, with its chart, and with the set of the states of each Kind.
type plan struct {
	*table.Table
	chart api.Chart
	kinds [api.Deep + 1]uint32
}

func planOf(t *table.Table) plan {
	p := plan{Table: t, chart: t.Chart()}
	for s, one := range p.chart.States {
		p.kinds[one.Kind] |= bit(s)
	}
	return p
}

// states are all that the chart has.
func (p *plan) states() uint32 { return bit(len(p.chart.States)) - 1 }

func (p *plan) leaves() uint32 { return p.kinds[api.Atomic] | p.kinds[api.Final] }

func (p *plan) histories() uint32 { return p.kinds[api.Shallow] | p.kinds[api.Deep] }

func (p *plan) isHistory(s int) bool { return p.histories()&bit(s) != 0 }

func (p *plan) isA(s, kind int) bool { return p.kinds[kind]&bit(s) != 0 }

// reach is the state within which a transition leaves and enters.
func (p *plan) reach(one api.Trans) int {
	if len(one.Targets) == 0 {
		return none
	}
	around := p.kinds[api.Compound] // those that all Targets are in
	for _, s := range one.Targets {
		if p.isHistory(s) {
			s = p.chart.States[s].Parent
		}
		around &= p.Up(s)
	}
	if one.Internal && around&bit(one.Source) != 0 {
		return one.Source
	}
	return greatest(around & p.Up(one.Source))
}
