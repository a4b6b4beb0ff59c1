package codec

import "spinet/api"

// none is the fault of bytes that are as they should be.
const none api.Code = 0

// more is the bit of a number's byte that tells that another one follows: and
// how many numbers one byte has without it.
const more = 1 << 7

// greatest is the greatest number that is read, and longest how many bytes it
// has: with more of them a number is greater, or has more than it takes.
const (
	greatest = 1<<31 - 1
	longest  = 5
)

// maxPlaces is how many Initial, or Targets, are read at most.
const maxPlaces = 3

// reader goes through a chart's bytes once, up to the first fault. There it
// stays, and all that is read from then on is 0: rows end by themselves, and
// whoever reads need not ask.
type reader struct {
	in    []byte
	at    int
	fault api.Code
}

func (r *reader) chart() api.Chart {
	c := api.Chart{Vars: r.number()}
	states, trans := r.count(api.MaxStates), r.count(api.MaxTrans)
	c.States = getEach(states, r.state)
	c.Trans = getEach(trans, r.trans)
	return c
}

func (r *reader) state() api.State {
	return api.State{
		Kind:    r.number(),
		Parent:  r.number() - 1,
		Initial: getRow(r, maxPlaces, r.number),
		Entry:   getRow(r, api.MaxActs, r.act),
		Exit:    getRow(r, api.MaxActs, r.act),
	}
}

func (r *reader) trans() api.Trans {
	return api.Trans{
		Source:   r.number(),
		Event:    r.number(),
		Guard:    r.text(),
		Targets:  getRow(r, maxPlaces, r.number),
		Internal: r.truth(),
		Acts:     getRow(r, api.MaxActs, r.act),
	}
}

func (r *reader) act() api.Act {
	return api.Act{Kind: r.number(), N: r.number(), M: r.number(), Expr: r.text()}
}

func getRow[T any](r *reader, most int, get func() T) []T {
	return getEach(r.count(most), get)
}

func getEach[T any](n int, get func() T) []T {
	var l []T
	for range n {
		l = append(l, get())
	}
	return l
}

func (r *reader) text() string {
	n := r.count(api.MaxText)
	if n > len(r.in)-r.at {
		r.fault = api.ErrForm
		return ""
	}
	s := string(r.in[r.at : r.at+n])
	r.at += n
	return s
}

func (r *reader) number() int { return r.upTo(greatest, api.ErrForm) }

// count is a number that tells how many there are.
func (r *reader) count(most int) int { return r.upTo(most, api.ErrLarge) }

func (r *reader) truth() bool { return r.upTo(1, api.ErrForm) == 1 }

// upTo is a number of at most so much; above is the fault of a greater one.
func (r *reader) upTo(most int, above api.Code) int {
	if r.fault != none {
		return 0
	}
	n, size := numberOf(r.in[r.at:])
	switch {
	case size == 0 || n > greatest:
		r.fault = api.ErrForm
		return 0
	case n > int64(most):
		r.fault = above
		return 0
	}
	r.at += size
	return int(n)
}

// numberOf is the number that b begins with, and how many bytes it has: none,
// if it is no number that may be read.
func numberOf(b []byte) (int64, int) {
	var n int64
	for i, one := range b[:min(len(b), longest)] {
		if one == 0 && i > 0 {
			return 0, 0 // it has more bytes than it takes
		}
		n |= int64(one%more) << (7 * i)
		if one < more {
			return n, i + 1
		}
	}
	return 0, 0
}

// end is behind all: nothing more is there.
func (r *reader) end() {
	if r.fault == none && r.at < len(r.in) {
		r.fault = api.ErrForm
	}
}
