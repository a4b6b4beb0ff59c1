package num_test

import (
	"errors"
	"math"
	"math/big"
	"testing"

	"spinet/api"
	"spinet/num"
)

const (
	least    = math.MinInt64
	greatest = math.MaxInt64
)

// edges are the numbers of which every pair is tried: those near 0, near the
// ends, and near the powers of 2 where sums and products begin to go round.
func edges() []int64 {
	return []int64{
		least, least + 1, least + 2,
		-1<<62 - 1, -1 << 62, -1<<62 + 1,
		-1<<32 - 1, -1 << 32, -1<<31 - 1, -1 << 31,
		-1000003, -10, -7, -3, -2, -1, 0, 1, 2, 3, 7, 10, 1000003,
		1<<31 - 1, 1 << 31, 1<<32 - 1, 1 << 32, 3037000499, 3037000500,
		1<<62 - 1, 1 << 62, 1<<62 + 1,
		greatest - 2, greatest - 1, greatest,
	}
}

// eachPair hands on every pair of edges, and some pairs from all over the
// range that a fixed rule makes.
func eachPair(try func(a, b int64)) {
	for _, a := range edges() {
		for _, b := range edges() {
			try(a, b)
		}
	}
	x := uint64(1)
	next := func() int64 {
		x = x*6364136223846793005 + 1442695040888963407
		return int64(x) >> (x >> 59)
	}
	for range 2000 {
		try(next(), next())
	}
}

// round tells what a number of any size is once it went round: the one from
// -2^63 to 2^63 - 1 that differs by some many times 2^64.
func round(x *big.Int) int64 {
	turn := new(big.Int).Lsh(big.NewInt(1), 64)
	half := new(big.Int).Lsh(big.NewInt(1), 63)
	y := new(big.Int).Add(x, half)
	y.Mod(y, turn)
	return y.Sub(y, half).Int64()
}

// P1.1: ordinary numbers, and sums, differences, products that go round.

func TestAdd(t *testing.T) {
	for _, c := range [][3]int64{
		{0, 0, 0}, {2, 3, 5}, {-2, 3, 1}, {2, -3, -1}, {-2, -3, -5},
		{greatest, 0, greatest}, {least, 0, least}, {greatest, least, -1},
		{greatest, 1, least}, {least, -1, greatest}, {greatest, greatest, -2}, {least, least, 0},
	} {
		if got := num.Add(c[0], c[1]); got != c[2] {
			t.Errorf("Add(%d, %d) = %d, want %d", c[0], c[1], got, c[2])
		}
	}
}

func TestSub(t *testing.T) {
	for _, c := range [][3]int64{
		{0, 0, 0}, {5, 3, 2}, {3, 5, -2}, {-3, -5, 2}, {-3, 5, -8},
		{greatest, greatest, 0}, {least, least, 0}, {-1, greatest, least}, {-1, least, greatest},
		{least, 1, greatest}, {greatest, -1, least}, {0, least, least}, {greatest, least, -1}, {least, greatest, 1},
	} {
		if got := num.Sub(c[0], c[1]); got != c[2] {
			t.Errorf("Sub(%d, %d) = %d, want %d", c[0], c[1], got, c[2])
		}
	}
}

func TestMul(t *testing.T) {
	for _, c := range [][3]int64{
		{0, 7, 0}, {6, 7, 42}, {-6, 7, -42}, {6, -7, -42}, {-6, -7, 42},
		{1, greatest, greatest}, {1, least, least}, {-1, greatest, least + 1}, {0, least, 0},
		{1 << 62, 2, least}, {1 << 62, 4, 0}, {1 << 32, 1 << 32, 0}, {least, -1, least}, {-1, least, least},
		{least, 2, 0}, {least, least, 0}, {greatest, 2, -2}, {greatest, greatest, 1}, {greatest, least, least},
	} {
		if got := num.Mul(c[0], c[1]); got != c[2] {
			t.Errorf("Mul(%d, %d) = %d, want %d", c[0], c[1], got, c[2])
		}
	}
}

func TestNeg(t *testing.T) {
	for _, c := range [][2]int64{
		{0, 0}, {1, -1}, {-1, 1}, {42, -42}, {-42, 42},
		{greatest, least + 1}, {least + 1, greatest}, {least, least},
	} {
		if got := num.Neg(c[0]); got != c[1] {
			t.Errorf("Neg(%d) = %d, want %d", c[0], got, c[1])
		}
	}
}

func TestSumsDifferencesAndProductsGoRound(t *testing.T) {
	eachPair(func(a, b int64) {
		x, y := big.NewInt(a), big.NewInt(b)
		if got, want := num.Add(a, b), round(new(big.Int).Add(x, y)); got != want {
			t.Errorf("Add(%d, %d) = %d, want %d", a, b, got, want)
		}
		if got, want := num.Sub(a, b), round(new(big.Int).Sub(x, y)); got != want {
			t.Errorf("Sub(%d, %d) = %d, want %d", a, b, got, want)
		}
		if got, want := num.Mul(a, b), round(new(big.Int).Mul(x, y)); got != want {
			t.Errorf("Mul(%d, %d) = %d, want %d", a, b, got, want)
		}
		if got, want := num.Neg(a), round(new(big.Int).Neg(x)); got != want {
			t.Errorf("Neg(%d) = %d, want %d", a, got, want)
		}
	})
}

// P1.1: the quotient goes towards 0, and the rest has the sign of a.

func TestDivAndMod(t *testing.T) {
	for _, c := range []struct{ a, b, quotient, rest int64 }{
		{7, 2, 3, 1}, {-7, 2, -3, -1}, {7, -2, -3, 1}, {-7, -2, 3, -1},
		{6, 3, 2, 0}, {-6, 3, -2, 0}, {6, -3, -2, 0}, {-6, -3, 2, 0},
		{0, 5, 0, 0}, {0, -5, 0, 0}, {1, 2, 0, 1}, {-1, 2, 0, -1}, {1, -2, 0, 1}, {-1, -2, 0, -1},
		{greatest, 1, greatest, 0}, {greatest, -1, least + 1, 0}, {greatest, 2, 1<<62 - 1, 1},
		{least, 1, least, 0}, {least, -1, least, 0}, {least, 2, -1 << 62, 0}, {least, 3, -3074457345618258602, -2},
		{least, least, 1, 0}, {greatest, greatest, 1, 0}, {least, greatest, -1, -1}, {greatest, least, 0, greatest},
		{1, least, 0, 1}, {-1, least, 0, -1}, {0, least, 0, 0},
	} {
		quotient, err := num.Div(c.a, c.b)
		if err != nil || quotient != c.quotient {
			t.Errorf("Div(%d, %d) = %d, %v, want %d", c.a, c.b, quotient, err, c.quotient)
		}
		rest, err := num.Mod(c.a, c.b)
		if err != nil || rest != c.rest {
			t.Errorf("Mod(%d, %d) = %d, %v, want %d", c.a, c.b, rest, err, c.rest)
		}
	}
}

func TestDivAndModAreThoseOfNumbersOfAnySize(t *testing.T) {
	eachPair(func(a, b int64) {
		if b == 0 {
			return
		}
		q, r := new(big.Int).QuoRem(big.NewInt(a), big.NewInt(b), new(big.Int))
		if got, err := num.Div(a, b); err != nil || got != round(q) {
			t.Errorf("Div(%d, %d) = %d, %v, want %d", a, b, got, err, round(q))
		}
		if got, err := num.Mod(a, b); err != nil || got != round(r) {
			t.Errorf("Mod(%d, %d) = %d, %v, want %d", a, b, got, err, round(r))
		}
	})
}

// P1.1, R1, R3: by 0 the error is ErrZero itself, and the other result is 0.

func TestByZero(t *testing.T) {
	for _, a := range edges() {
		quotient, err := num.Div(a, 0)
		if quotient != 0 || err != error(api.ErrZero) {
			t.Errorf("Div(%d, 0) = %d, %v, want 0, ErrZero", a, quotient, err)
		}
		checkIsZeroItself(t, err)
		rest, err := num.Mod(a, 0)
		if rest != 0 || err != error(api.ErrZero) {
			t.Errorf("Mod(%d, 0) = %d, %v, want 0, ErrZero", a, rest, err)
		}
		checkIsZeroItself(t, err)
	}
}

func checkIsZeroItself(t *testing.T, err error) {
	t.Helper()
	if code, ok := err.(api.Code); !ok || code != api.ErrZero {
		t.Errorf("%v is not the Code ErrZero", err)
	}
	var spot *api.Spot
	if errors.As(err, &spot) {
		t.Errorf("%v is a Spot", err)
	}
}

// P1.1: Big is the sum, and whether it went round.

func TestBig(t *testing.T) {
	for _, c := range []struct {
		a, b, sum int64
		wentRound bool
	}{
		{0, 0, 0, false}, {2, 3, 5, false}, {-2, -3, -5, false}, {5, -7, -2, false}, {-5, 7, 2, false},
		{greatest, 0, greatest, false}, {0, greatest, greatest, false}, {least, 0, least, false}, {0, least, least, false},
		{greatest - 1, 1, greatest, false}, {least + 1, -1, least, false},
		{greatest, -1, greatest - 1, false}, {least, 1, least + 1, false},
		{greatest, least, -1, false}, {least, greatest, -1, false},
		{-1 << 62, -1 << 62, least, false}, {1 << 62, 1<<62 - 1, greatest, false},
		{greatest, 1, least, true}, {1, greatest, least, true}, {least, -1, greatest, true}, {-1, least, greatest, true},
		{greatest, greatest, -2, true}, {least, least, 0, true},
		{1 << 62, 1 << 62, least, true}, {-1 << 62, -1<<62 - 1, greatest, true},
	} {
		sum, wentRound := num.Big(c.a, c.b)
		if sum != c.sum || wentRound != c.wentRound {
			t.Errorf("Big(%d, %d) = %d, %t, want %d, %t", c.a, c.b, sum, wentRound, c.sum, c.wentRound)
		}
	}
}

func TestBigTellsWhatDoesNotFit(t *testing.T) {
	eachPair(func(a, b int64) {
		exact := new(big.Int).Add(big.NewInt(a), big.NewInt(b))
		sum, wentRound := num.Big(a, b)
		if sum != round(exact) || wentRound == exact.IsInt64() {
			t.Errorf("Big(%d, %d) = %d, %t, but the sum is %v", a, b, sum, wentRound, exact)
		}
	})
}

// P1.2: what was added is taken away again, whether or not it went round.

func TestAddedIsTakenAwayAgain(t *testing.T) {
	eachPair(func(a, b int64) {
		if got := num.Sub(num.Add(a, b), b); got != a {
			t.Errorf("Sub(Add(%d, %d), %d) = %d", a, b, b, got)
		}
		if got := num.Add(num.Sub(a, b), b); got != a {
			t.Errorf("Add(Sub(%d, %d), %d) = %d", a, b, b, got)
		}
		if got := num.Add(num.Add(a, b), num.Neg(b)); got != a {
			t.Errorf("Add(Add(%d, %d), Neg(%d)) = %d", a, b, b, got)
		}
	})
}

// P1.2: quotient times b and rest together are a.

func TestQuotientAndRestTogether(t *testing.T) {
	eachPair(func(a, b int64) {
		if b == 0 {
			return
		}
		quotient, err := num.Div(a, b)
		if err != nil {
			t.Errorf("Div(%d, %d): %v", a, b, err)
		}
		rest, err := num.Mod(a, b)
		if err != nil {
			t.Errorf("Mod(%d, %d): %v", a, b, err)
		}
		if got := num.Add(num.Mul(quotient, b), rest); got != a {
			t.Errorf("%d times %d and %d are %d, want %d", quotient, b, rest, got, a)
		}
	})
}

// P1, R2: no call panics, and none keeps anything: asked again it tells the same.

func TestNoneOfThemPanicsOrKeepsAnything(t *testing.T) {
	eachPair(func(a, b int64) {
		first, ok := all(a, b)
		second, again := all(a, b)
		if !ok || !again {
			t.Errorf("a call panics at %d, %d", a, b)
		}
		if first != second {
			t.Errorf("at %d, %d: %v, and then %v", a, b, first, second)
		}
	})
}

type answers struct {
	sum, difference, product, negated, quotient, rest, bigSum int64
	noQuotient, noRest                                        error
	wentRound                                                 bool
}

func all(a, b int64) (told answers, ok bool) {
	defer func() { ok = recover() == nil }()
	told.sum, told.difference, told.product, told.negated = num.Add(a, b), num.Sub(a, b), num.Mul(a, b), num.Neg(a)
	told.quotient, told.noQuotient = num.Div(a, b)
	told.rest, told.noRest = num.Mod(a, b)
	told.bigSum, told.wentRound = num.Big(a, b)
	return told, true
}
