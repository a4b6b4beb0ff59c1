package expr

import (
	"spinet/api"
	"spinet/num"
)

// worth is the number of what a token gives, of the numbers of what it takes;
// that of a truth is 1, or 0. All of these are of its kinds, and a Var's place
// is in env.
func worth(t api.Tok, of, env []int64) (int64, error) {
	switch t.Kind {
	case api.Num:
		return t.N, nil
	case api.Var:
		return env[t.N], nil
	case api.True, api.False:
		return truth(t.Kind == api.True), nil
	case api.Neg:
		return num.Neg(of[0]), nil
	case api.Not:
		return truth(of[0] == 0), nil
	}
	return worthOfTwo(t.Kind, of[0], of[1])
}

// worthOfTwo is worth for the Kinds that take two.
func worthOfTwo(kind int, x, y int64) (int64, error) {
	switch kind {
	case api.Add:
		return num.Add(x, y), nil
	case api.Sub:
		return num.Sub(x, y), nil
	case api.Mul:
		return num.Mul(x, y), nil
	case api.Div:
		return num.Div(x, y)
	case api.Mod:
		return num.Mod(x, y)
	}
	return truth(holds(kind, x, y)), nil
}

// holds tells whether what stands between two, and gives a truth, is true.
func holds(kind int, x, y int64) bool {
	switch kind {
	case api.Lt:
		return x < y
	case api.Le:
		return x <= y
	case api.Eq:
		return x == y
	case api.Ne:
		return x != y
	case api.And:
		return x != 0 && y != 0
	}
	return x != 0 || y != 0 // Or
}

// truth is the number of a truth.
func truth(b bool) int64 {
	if b {
		return 1
	}
	return 0
}
