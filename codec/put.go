package codec

import "spinet/api"

// putChart, and those below, write what may be: no number of it is below 0, but
// for the first state's Parent.
func putChart(b []byte, c api.Chart) []byte {
	b = putNumber(b, c.Vars)
	b = putNumber(b, len(c.States))
	b = putNumber(b, len(c.Trans))
	b = putEach(b, c.States, putState)
	return putEach(b, c.Trans, putTrans)
}

func putState(b []byte, s api.State) []byte {
	b = putNumber(b, s.Kind)
	b = putNumber(b, s.Parent+1)
	b = putRow(b, s.Initial, putNumber)
	b = putRow(b, s.Entry, putAct)
	return putRow(b, s.Exit, putAct)
}

func putTrans(b []byte, t api.Trans) []byte {
	b = putNumber(b, t.Source)
	b = putNumber(b, t.Event)
	b = putText(b, t.Guard)
	b = putRow(b, t.Targets, putNumber)
	b = putTruth(b, t.Internal)
	return putRow(b, t.Acts, putAct)
}

func putAct(b []byte, a api.Act) []byte {
	b = putNumber(b, a.Kind)
	b = putNumber(b, a.N)
	b = putNumber(b, a.M)
	return putText(b, a.Expr)
}

func putRow[T any](b []byte, l []T, put func([]byte, T) []byte) []byte {
	return putEach(putNumber(b, len(l)), l, put)
}

// putEach writes a row, but for how many there are: of states and transitions
// that stands apart from them.
func putEach[T any](b []byte, l []T, put func([]byte, T) []byte) []byte {
	for _, one := range l {
		b = put(b, one)
	}
	return b
}

func putText(b []byte, s string) []byte {
	return append(putNumber(b, len(s)), s...)
}

func putTruth(b []byte, truth bool) []byte {
	if truth {
		return putNumber(b, 1)
	}
	return putNumber(b, 0)
}

func putNumber(b []byte, n int) []byte {
	for n >= more {
		b = append(b, byte(n%more)|more)
		n /= more
	}
	return append(b, byte(n))
}
