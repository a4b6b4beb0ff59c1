package parse

import (
	"slices"

	"spinet/api"
)

// reader goes through a text's tokens once, from the left on, and writes their
// postfix. What reads something tells whether it was there; if not, the reader
// stands at the first token with which the text can't go on: one token ahead is
// enough to tell, so that it never passes such a one by.
type reader struct {
	in  []api.Tok
	at  int
	out []api.Tok
}

// kind is that of the token where the reader stands, and 0 behind the last one.
func (r *reader) kind() int {
	if r.at == len(r.in) {
		return 0
	}
	return r.in[r.at].Kind
}

// byteIn is where in s the reader stands.
func (r *reader) byteIn(s string) int {
	if r.at == len(r.in) {
		return len(s)
	}
	return r.in[r.at].At
}

// whole reads an expression, and nothing behind it.
func (r *reader) whole() bool { return r.ors() && r.at == len(r.in) }

func (r *reader) ors() bool { return r.row(r.ands, api.Or) }

func (r *reader) ands() bool { return r.row(r.not, api.And) }

func (r *reader) not() bool {
	if r.kind() == api.Not {
		return r.operator(r.not, api.Not)
	}
	return r.comparison()
}

// comparison is no row: it has two sums at most.
func (r *reader) comparison() bool {
	if !r.sum() {
		return false
	}
	switch kind := r.kind(); kind {
	case api.Lt, api.Le, api.Eq, api.Ne:
		return r.operator(r.sum, kind)
	}
	return true
}

func (r *reader) sum() bool { return r.row(r.product, api.Add, api.Sub) }

func (r *reader) product() bool { return r.row(r.signed, api.Mul, api.Div, api.Mod) }

func (r *reader) signed() bool {
	switch r.kind() {
	case api.Sub:
		return r.operator(r.signed, api.Neg)
	case api.Num, api.Var, api.True, api.False:
		r.operand()
		return true
	case api.Open:
		return r.brackets()
	}
	return false
}

func (r *reader) operand() {
	t := r.in[r.at]
	r.at++
	r.out = append(r.out, api.Tok{Kind: t.Kind, N: t.N})
}

func (r *reader) brackets() bool {
	r.at++
	if !r.ors() || r.kind() != api.Close {
		return false
	}
	r.at++
	return true
}

// row reads one and, as long as a token of these kinds stands between, one more.
func (r *reader) row(one func() bool, between ...int) bool {
	ok := one()
	for ok && slices.Contains(between, r.kind()) {
		ok = r.operator(one, r.kind())
	}
	return ok
}

// operator passes a token by, reads the one that follows, and puts a token of
// this kind behind it.
func (r *reader) operator(one func() bool, kind int) bool {
	r.at++
	if !one() {
		return false
	}
	r.out = append(r.out, api.Tok{Kind: kind})
	return true
}
