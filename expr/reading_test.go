package expr_test

import (
	"math/big"
	"slices"
	"testing"

	"spinet/api"
	"spinet/expr"
	"spinet/parse"
)

// A second reading of the chapter: a token's value, by recursion, from those
// that stand ahead of it, with numbers of any size that then go round.

// needs is how many a token takes.
func needs(one api.Tok) int {
	switch one.Kind {
	case api.Num, api.Var, api.True, api.False:
		return 0
	case api.Not, api.Neg:
		return 1
	}
	return 2
}

// begin is where what the token at i gives begins.
func begin(p []api.Tok, i int) int {
	for n := needs(p[i]); n > 0; n-- {
		i = begin(p, i-1)
	}
	return i
}

// worthAt is the value of the token at i of p, if none ahead of it is at fault,
// or its own fault.
func worthAt(p []api.Tok, i int, env []int64) (any, api.Code) {
	switch p[i].Kind {
	case api.Num:
		return big.NewInt(p[i].N), 0
	case api.Var:
		if int(p[i].N) >= len(env) {
			return nil, api.ErrNone
		}
		return big.NewInt(env[p[i].N]), 0
	case api.True, api.False:
		return p[i].Kind == api.True, 0
	}
	right, _ := worthAt(p, i-1, env)
	if needs(p[i]) == 1 {
		return ofOne(p[i].Kind, right)
	}
	left, _ := worthAt(p, begin(p, i-1)-1, env)
	x, isNumber := left.(*big.Int)
	y, isNumberToo := right.(*big.Int)
	if isNumber && isNumberToo {
		return ofNumbers(p[i].Kind, x, y)
	}
	b, isTruth := left.(bool)
	c, isTruthToo := right.(bool)
	if isTruth && isTruthToo {
		return ofTruths(p[i].Kind, b, c)
	}
	return nil, api.ErrType
}

func ofOne(kind int, of any) (any, api.Code) {
	switch x := of.(type) {
	case *big.Int:
		if kind == api.Neg {
			return round(new(big.Int).Neg(x)), 0
		}
	case bool:
		if kind == api.Not {
			return !x, 0
		}
	}
	return nil, api.ErrType
}

func ofNumbers(kind int, x, y *big.Int) (any, api.Code) {
	z := new(big.Int)
	if (kind == api.Div || kind == api.Mod) && y.Sign() == 0 {
		return nil, api.ErrZero
	}
	switch kind {
	case api.Add:
		return round(z.Add(x, y)), 0
	case api.Sub:
		return round(z.Sub(x, y)), 0
	case api.Mul:
		return round(z.Mul(x, y)), 0
	case api.Div:
		return round(z.Quo(x, y)), 0
	case api.Mod:
		return round(z.Rem(x, y)), 0
	case api.Lt:
		return x.Cmp(y) < 0, 0
	case api.Le:
		return x.Cmp(y) <= 0, 0
	case api.Eq:
		return x.Cmp(y) == 0, 0
	case api.Ne:
		return x.Cmp(y) != 0, 0
	}
	return nil, api.ErrType
}

func ofTruths(kind int, x, y bool) (any, api.Code) {
	switch kind {
	case api.Eq:
		return x == y, 0
	case api.Ne:
		return x != y, 0
	case api.And:
		return x && y, 0
	case api.Or:
		return x || y, 0
	}
	return nil, api.ErrType
}

// round tells what a number of any size is once it went round.
func round(x *big.Int) *big.Int {
	turn := new(big.Int).Lsh(big.NewInt(1), 64)
	half := new(big.Int).Lsh(big.NewInt(1), 63)
	y := new(big.Int).Add(x, half)
	y.Mod(y, turn)
	return y.Sub(y, half)
}

// read is what a postfix that may be is worth by the second reading.
func read(p []api.Tok, env []int64) (api.Val, api.Code) {
	var last any
	for i := range p {
		v, fault := worthAt(p, i, env)
		if fault != 0 {
			return api.Val{}, fault
		}
		last = v
	}
	if n, ok := last.(*big.Int); ok {
		return number(n.Int64()), 0
	}
	return truth(last.(bool)), 0
}

// checkByReading holds Eval and Type of one that may be against the second
// reading and, P4.5, against each other.
func checkByReading(t *testing.T, p []api.Tok, env []int64) {
	t.Helper()
	want, fault := read(p, env)
	if fault != 0 {
		checkNoValue(t, p, env, fault)
	} else {
		checkEval(t, p, env, want)
	}
	if kind, noKind := read(undivided(p), env); noKind != 0 {
		checkNoType(t, p, len(env), noKind)
	} else {
		checkType(t, p, len(env), kind.Kind)
	}
	checkTypeAndValue(t, p, env)
}

// undivided has products for quotients and rests: its type is the same, and
// nothing in it is divided by 0.
func undivided(p []api.Tok) []api.Tok {
	p = slices.Clone(p)
	for i := range p {
		if p[i].Kind == api.Div || p[i].Kind == api.Mod {
			p[i].Kind = api.Mul
		}
	}
	return p
}

// checkTypeAndValue is P4.5: what has a type, with as many variables as env
// has, has a value of it, or ErrZero; and what has none has no value.
func checkTypeAndValue(t *testing.T, p []api.Tok, env []int64) {
	t.Helper()
	kind, noKind := expr.Type(p, len(env))
	val, noVal := expr.Eval(p, env)
	switch {
	case noKind != nil && noVal == nil:
		t.Errorf("Type(%v) = %v, but Eval = %v", p, noKind, val)
	case noKind != nil && noVal != noKind && noVal != error(api.ErrZero):
		t.Errorf("Type(%v) = %v, but Eval = %v", p, noKind, noVal)
	case noKind == nil && noVal != nil && noVal != error(api.ErrZero):
		t.Errorf("Type(%v) = %d, but Eval = %v", p, kind, noVal)
	case noKind == nil && kind != api.Int && kind != api.Truth:
		t.Errorf("Type(%v) = %d", p, kind)
	case noVal == nil && val.Kind != kind:
		t.Errorf("Type(%v) = %d, but Eval = %v", p, kind, val)
	case noVal == nil && kind == api.Truth && val.N != 0 && val.N != 1:
		t.Errorf("Eval(%v) = %v", p, val)
	}
}

// P4.1, P4.2, P4.5: all short postfixes of some tokens.

func TestAllShortPostfixes(t *testing.T) {
	all := postfix(t, "0 2 a c true false + - * / % < <= == != and or not neg")
	env := []int64{least, 3}
	var grow func(p []api.Tok, left, more int)
	grow = func(p []api.Tok, left, more int) {
		if left == 1 {
			checkByReading(t, p, env)
		}
		for _, one := range all {
			if n := needs(one); more > 0 && n <= left {
				grow(append(slices.Clip(p), one), left+1-n, more-1)
			}
		}
	}
	grow(nil, 0, 5)
}

// P4.1, P4.2, P4.5: longer ones, by a fixed rule: of whatever, and of such as
// have a type, so that long ones have values, too.

func TestLongerPostfixes(t *testing.T) {
	env := []int64{least, greatest, -1, 0, 7, -1000003}
	all := postfix(t, "0 2 "+greatestText+" a b c d e f true false + - * / % < <= == != and or not neg")
	for seed := range uint32(3000) {
		m := maker{x: seed*2654435761 + 1}
		checkByReading(t, m.anything(all, int(seed%40)), env)
		checkByReading(t, m.sound(api.Int+int(seed%2), int(seed%7), len(env)), env)
	}
}

// maker makes postfixes by a fixed rule.
type maker struct{ x uint32 }

func (m *maker) below(n int) int {
	m.x = m.x*1664525 + 1013904223
	return int(m.x>>16) % n
}

// anything is a postfix of some of these.
func (m *maker) anything(all []api.Tok, size int) []api.Tok {
	var p []api.Tok
	for left := 0; size > 0 || left != 1; size-- {
		one := all[m.below(len(all))]
		if size <= 0 && left > 1 {
			one = api.Tok{Kind: api.Eq}
		}
		if left < needs(one) {
			one = api.Tok{Kind: api.Var, N: int64(m.below(26))}
		}
		p = append(p, one)
		left += 1 - needs(one)
	}
	return p
}

// sound is a postfix of that type, with as many levels at most.
func (m *maker) sound(kind, levels, vars int) []api.Tok {
	if levels <= 1 {
		return m.leaf(kind, vars)
	}
	of, signs := kind, []int{api.Add, api.Sub, api.Mul, api.Div, api.Mod, api.Neg}
	if kind == api.Truth {
		signs = []int{api.And, api.Or, api.Not, api.Eq, api.Ne}
		if m.below(2) == 0 {
			of, signs = api.Int, []int{api.Lt, api.Le, api.Eq, api.Ne}
		}
	}
	sign := api.Tok{Kind: signs[m.below(len(signs))]}
	var p []api.Tok
	for range needs(sign) {
		p = append(p, m.sound(of, levels-1-m.below(2), vars)...)
	}
	return append(p, sign)
}

func (m *maker) leaf(kind, vars int) []api.Tok {
	switch {
	case kind == api.Truth:
		return []api.Tok{{Kind: api.True + m.below(2)}}
	case m.below(3) == 0:
		return []api.Tok{{Kind: api.Num, N: int64(m.below(4))}}
	}
	return []api.Tok{{Kind: api.Var, N: int64(m.below(vars))}}
}

// P1, R3: no call panics, whatever it is given.

func FuzzEval(f *testing.F) {
	f.Add([]byte{1, 2, 3}, int64(0), 0, 3)
	f.Add([]byte{1, 2, 6}, int64(0), 0, 1)
	f.Add([]byte{15, 16, 12, 14}, int64(0), 0, -1)
	f.Add([]byte{2, 17}, int64(26), 1, 40)
	f.Fuzz(func(t *testing.T, kinds []byte, n int64, at, vars int) {
		var p []api.Tok
		for _, k := range kinds {
			p = append(p, api.Tok{Kind: int(k % 22)})
		}
		if len(p) > 0 {
			p[0].N, p[len(p)-1].At = n, at
		}
		env := upTo(min(max(vars, 0), 50))
		if _, err := expr.Type(p, vars); !parse.May(p) {
			if err != error(api.ErrForm) {
				t.Errorf("Type(%v, %d): %v", p, vars, err)
			}
			checkNoValue(t, p, env, api.ErrForm)
			return
		}
		checkByReading(t, p, env)
	})
}

func FuzzOf(f *testing.F) {
	for _, s := range []string{"", "a+1<2", "7/2==3", "not (b <= 12)", "1/0", "a<b<c", "true+1", "--a", "\xff"} {
		f.Add(s, int64(3), int64(0))
	}
	f.Fuzz(func(t *testing.T, s string, a, b int64) {
		env := []int64{a, b}
		got, err := expr.Of(s, env)
		p, noParse := parse.Parse(s)
		if noParse != nil {
			if err == nil || err.Error() != noParse.Error() || got != (api.Val{}) {
				t.Errorf("Of(%q) = %v, %v, want %v", s, got, err, noParse)
			}
			return
		}
		if want, fault := expr.Eval(p, env); got != want || err != fault {
			t.Errorf("Of(%q) = %v, %v, want %v, %v", s, got, err, want, fault)
		}
		checkByReading(t, p, env)
	})
}
