package tree

import "spinet/api"

// copyOfChart shares no list with the chart.
func copyOfChart(c api.Chart) api.Chart {
	c.States, c.Trans = copyOf(c.States), copyOf(c.Trans)
	for s := range c.States {
		one := &c.States[s]
		one.Initial, one.Entry, one.Exit = copyOf(one.Initial), copyOf(one.Entry), copyOf(one.Exit)
	}
	for i := range c.Trans {
		one := &c.Trans[i]
		one.Targets, one.Acts = copyOf(one.Targets), copyOf(one.Acts)
	}
	return c
}

// copyOf is nil for a list of no elements: a piece of it would keep what it is a
// piece of.
func copyOf[T any](l []T) []T { return append([]T(nil), l...) }
