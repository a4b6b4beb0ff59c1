package expr_test

import (
	"math"
	"slices"
	"strconv"
	"strings"
	"testing"

	"spinet/api"
	"spinet/expr"
	"spinet/parse"
)

const (
	least        = math.MinInt64
	greatest     = math.MaxInt64
	greatestText = "9223372036854775807"
)

// words are, by their Kinds, what postfixes are written with here.
var words = strings.Fields("... ... ... + - * / % < <= == != and or not true false ... ... neg")

// postfix is what is written so: its tokens with a space between each two.
func postfix(t testing.TB, s string) []api.Tok {
	t.Helper()
	var p []api.Tok
	for _, w := range strings.Fields(s) {
		n, err := strconv.ParseInt(w, 10, 64)
		kind := slices.Index(words, w)
		switch {
		case err == nil:
			p = append(p, api.Tok{Kind: api.Num, N: n})
		case len(w) == 1 && w[0] >= 'a' && w[0] <= 'z':
			p = append(p, api.Tok{Kind: api.Var, N: int64(w[0]) - 'a'})
		case kind >= api.Add:
			p = append(p, api.Tok{Kind: kind})
		default:
			t.Fatalf("no token of a postfix: %q", w)
		}
	}
	return p
}

func number(n int64) api.Val { return api.Val{Kind: api.Int, N: n} }

func truth(b bool) api.Val {
	if b {
		return api.Val{Kind: api.Truth, N: 1}
	}
	return api.Val{Kind: api.Truth}
}

// upTo is variables of which each is worth its place, and one.
func upTo(n int) []int64 {
	var env []int64
	for i := range n {
		env = append(env, int64(i)+1)
	}
	return env
}

func checkType(t *testing.T, p []api.Tok, vars, want int) {
	t.Helper()
	if got, err := expr.Type(p, vars); err != nil || got != want {
		t.Errorf("Type(%v, %d) = %d, %v, want %d", p, vars, got, err, want)
	}
}

// checkNoType asks for the Code itself, and no kind (R3).
func checkNoType(t *testing.T, p []api.Tok, vars int, want api.Code) {
	t.Helper()
	if got, err := expr.Type(p, vars); err != error(want) || got != 0 {
		t.Errorf("Type(%v, %d) = %d, %v, want 0, and %v itself", p, vars, got, err, want)
	}
}

func checkEval(t *testing.T, p []api.Tok, env []int64, want api.Val) {
	t.Helper()
	if got, err := expr.Eval(p, env); err != nil || got != want {
		t.Errorf("Eval(%v, %v) = %v, %v, want %v", p, env, got, err, want)
	}
}

// checkNoValue asks for the Code itself, and no value (R3).
func checkNoValue(t *testing.T, p []api.Tok, env []int64, want api.Code) {
	t.Helper()
	if got, err := expr.Eval(p, env); err != error(want) || got != (api.Val{}) {
		t.Errorf("Eval(%v, %v) = %v, %v, want none, and %v itself", p, env, got, err, want)
	}
}

// checkWorth asks a postfix for its value, and for the type of that.
func checkWorth(t *testing.T, s string, env []int64, want api.Val) {
	t.Helper()
	p := postfix(t, s)
	checkType(t, p, len(env), want.Kind)
	checkEval(t, p, env, want)
}

func checkOf(t *testing.T, s string, env []int64, want api.Val) {
	t.Helper()
	if got, err := expr.Of(s, env); err != nil || got != want {
		t.Errorf("Of(%q, %v) = %v, %v, want %v", s, env, got, err, want)
	}
}

// checkNothingOf asks for the Code itself, and no value (R3).
func checkNothingOf(t *testing.T, s string, env []int64, want api.Code) {
	t.Helper()
	if got, err := expr.Of(s, env); err != error(want) || got != (api.Val{}) {
		t.Errorf("Of(%q, %v) = %v, %v, want none, and %v itself", s, env, got, err, want)
	}
}

// P4.1, P4.2: each Kind that gives a number.

func TestNumbers(t *testing.T) {
	env := []int64{12, -5}
	for s, want := range map[string]int64{
		"0": 0, "7": 7, greatestText: greatest, "a": 12, "b": -5,
		"a b +": 7, "b a +": 7, "a b -": 17, "b a -": -17, "a b *": -60, "b b *": 25,
		"7 2 /": 3, "a b /": -2, "b a /": 0, "b 2 /": -2, "a 4 /": 3, "b b /": 1,
		"7 2 %": 1, "a b %": 2, "b a %": -5, "b 2 %": -1, "a 4 %": 0, "b b %": 0,
		"a neg": -12, "b neg": 5, "0 neg": 0, "a neg neg": 12,
		"a b + 2 * 3 -": 11, "1 2 3 4 5 + - * -": 13, "10 3 - 2 -": 5, "10 3 2 - -": 9,
	} {
		checkWorth(t, s, env, number(want))
	}
}

// P4.1, P4.2: each Kind that gives a truth; its N is 1, or 0.

func TestTruths(t *testing.T) {
	env := []int64{12, -5, 12}
	for s, want := range map[string]bool{
		"true": true, "false": false, "true not": false, "false not": true, "true not not": true,
		"a b <": false, "b a <": true, "a c <": false, "0 1 <": true,
		"a b <=": false, "b a <=": true, "a c <=": true, "1 0 <=": false,
		"a b ==": false, "a c ==": true, "a b !=": true, "a c !=": false,
		"true true ==": true, "true false ==": false, "false true ==": false, "false false ==": true,
		"true true !=": false, "true false !=": true, "false true !=": true, "false false !=": false,
		"true true and": true, "true false and": false, "false true and": false, "false false and": false,
		"true true or": true, "true false or": true, "false true or": true, "false false or": false,
		"a b < not a c == and": true, "a 12 == b 0 < ==": true, "a c <= b c <= !=": false,
	} {
		checkWorth(t, s, env, truth(want))
	}
}

// P4.3: ordinary texts.

func TestTexts(t *testing.T) {
	env := []int64{12, -5}
	checkOf(t, "7/2==3", nil, truth(true))
	checkOf(t, "a+1<2", env, truth(false))
	checkOf(t, "-a*(b-1)%7", env, number(2))
	checkOf(t, "not a<b and (b<0)==true or false", env, truth(true))
	checkOf(t, "  b ", env, number(-5))
	checkOf(t, "true", nil, truth(true))
	checkOf(t, "1-2-3", nil, number(-4))
	checkOf(t, "--a", env, number(12))
}

// P4.1, P4.2: which kinds each that takes some takes, and which it gives: all
// that may not stand so is ErrType itself.

func TestWhatEachTakesAndGives(t *testing.T) {
	const (
		n, b = api.Int, api.Truth
		none = 0
	)
	ones := map[int][2]int{api.Neg: {n, none}, api.Not: {none, b}} // of a number, of a truth
	for kind, gives := range ones {
		checkGives(t, gives[0], kind, "7")
		checkGives(t, gives[1], kind, "true")
	}
	twos := map[int][4]int{ // of two numbers, a number and a truth, a truth and a number, two truths
		api.Add: {n}, api.Sub: {n}, api.Mul: {n}, api.Div: {n}, api.Mod: {n},
		api.Lt: {b}, api.Le: {b}, api.Eq: {b, none, none, b}, api.Ne: {b, none, none, b},
		api.And: {none, none, none, b}, api.Or: {none, none, none, b},
	}
	for kind, gives := range twos {
		for _, truth := range []string{"true", "false"} {
			checkGives(t, gives[0], kind, "7 7")
			checkGives(t, gives[1], kind, "7 "+truth)
			checkGives(t, gives[2], kind, truth+" 7")
			checkGives(t, gives[3], kind, truth+" "+truth)
		}
	}
	if len(ones)+len(twos) != 13 {
		t.Error("not all Kinds that take some")
	}
}

// checkGives asks what a token of that Kind gives of these (0: nothing), with
// them as they are, and as they come from others.
func checkGives(t *testing.T, gives, kind int, of string) {
	t.Helper()
	worked := strings.NewReplacer("7", "4 3 +", "true", "1 2 <", "false", "true not").Replace(of)
	read := strings.NewReplacer("7", "a", "true", "a a ==", "false", "a b ==").Replace(of)
	for _, s := range []string{of, worked, read} {
		p := append(postfix(t, s), api.Tok{Kind: kind})
		if gives == 0 {
			checkNoType(t, p, 2, api.ErrType)
			checkNoValue(t, p, []int64{7, 9}, api.ErrType)
			continue
		}
		checkType(t, p, 2, gives)
		if got, err := expr.Eval(p, []int64{7, 9}); err != nil || got.Kind != gives {
			t.Errorf("Eval(%v) = %v, %v, want one of kind %d", p, got, err, gives)
		}
	}
}

// P4.2: numbers go round by layer 1, and the least one by -1 does.

func TestNumbersGoRound(t *testing.T) {
	env := []int64{least, greatest, -1, 1}
	for s, want := range map[string]int64{
		"b d +": least, "a c +": greatest, "b b +": -2, "a a +": 0,
		"a d -": greatest, "b c -": least, "a b -": 1, "d a - d -": least,
		"b 2 *": -2, "a c *": least, "b b *": 1, "4294967296 4294967296 *": 0, "3037000500 3037000500 *": -9223372036709301616,
		"a neg": least, "b neg": least + 1, "a neg neg": least,
		"a c /": least, "a c %": 0, "a d /": least, "b c /": least + 1, "a a /": 1, "a b %": -1, "b a %": greatest,
	} {
		checkWorth(t, s, env, number(want))
	}
	checkWorth(t, "b d + a ==", env, truth(true))
	checkWorth(t, "a b <", env, truth(true))
	checkWorth(t, "b a <", env, truth(false))
	checkWorth(t, "b a <=", env, truth(false))
	checkOf(t, greatestText+"+1", nil, number(least))
	checkOf(t, "(-"+greatestText+"-1)/-1", nil, number(least))
	checkOf(t, "(-"+greatestText+"-1)%-1", nil, number(0))
}

// P4.1: a Var whose N is vars or more is none: vars 0, below 0, 26 and more.

func TestVarsThatAreThere(t *testing.T) {
	for _, vars := range []int{math.MinInt, -26, -1, 0, 1, 2, 8, 25, 26, 27, 100, math.MaxInt} {
		for n := range 26 {
			p := []api.Tok{{Kind: api.Var, N: int64(n)}}
			if n < vars {
				checkType(t, p, vars, api.Int)
			} else {
				checkNoType(t, p, vars, api.ErrNone)
			}
		}
		checkType(t, postfix(t, "1 2 <"), vars, api.Truth)
		checkType(t, postfix(t, "1 2 +"), vars, api.Int)
	}
}

// P4.2: a Var whose N isn't a place in env is none: env nil, empty, longer
// than 26, and with room behind its end.

func TestVarsOfEnv(t *testing.T) {
	for _, env := range [][]int64{nil, {}, upTo(1), upTo(2), upTo(8), upTo(25), upTo(26), upTo(27), upTo(100), upTo(26)[:0], upTo(26)[:3]} {
		for n := range 26 {
			p := []api.Tok{{Kind: api.Var, N: int64(n)}}
			name := string(rune('a' + n))
			if n < len(env) {
				checkEval(t, p, env, number(int64(n)+1))
				checkOf(t, name, env, number(int64(n)+1))
			} else {
				checkNoValue(t, p, env, api.ErrNone)
				checkNothingOf(t, name, env, api.ErrNone)
			}
		}
		checkEval(t, postfix(t, "1 2 <"), env, truth(true))
	}
}

// P4.2: Div and Mod by 0, of whatever; a quotient of 0 by others is none.

func TestByZero(t *testing.T) {
	env := []int64{0, least, -1}
	for _, s := range []string{
		"7 0 /", "7 0 %", "0 0 /", "0 0 %", "b a /", "b a %", "a a %", "7 a neg /", "7 c c - %", "1 0 / 0 *", "1 1 0 / +",
		"true 1 0 / 1 == or", "false 1 0 % 1 == and", "1 0 / 1 0 / ==", "0 1 0 / *",
	} {
		checkNoValue(t, postfix(t, s), env, api.ErrZero)
		if _, err := expr.Type(postfix(t, s), len(env)); err != nil {
			t.Errorf("Type of %s: %v", s, err)
		}
	}
	checkNothingOf(t, "1/0", nil, api.ErrZero)
	checkNothingOf(t, "1%(2-2)", nil, api.ErrZero)
	checkNothingOf(t, "true or 1/0==1", nil, api.ErrZero)
	checkNothingOf(t, "false and 1%0==1", nil, api.ErrZero)
	checkWorth(t, "0 7 /", env, number(0))
	checkWorth(t, "a c %", env, number(0))
}

// P4.1, P4.2, R1: of several the one of the first token at fault.

func TestFirstTokenAtFault(t *testing.T) {
	for s, want := range map[string]struct{ noType, noValue api.Code }{
		"b true not 1 + -":       {api.ErrNone, api.ErrNone},
		"true neg b +":           {api.ErrType, api.ErrType},
		"true b neg +":           {api.ErrNone, api.ErrNone},
		"true b +":               {api.ErrNone, api.ErrNone},
		"true a + b +":           {api.ErrType, api.ErrType},
		"z 1 not +":              {api.ErrNone, api.ErrNone},
		"1 not z +":              {api.ErrType, api.ErrType},
		"1 0 / b +":              {api.ErrNone, api.ErrZero},
		"b 1 0 / +":              {api.ErrNone, api.ErrNone},
		"1 0 % true +":           {api.ErrType, api.ErrZero},
		"1 0 / not":              {api.ErrType, api.ErrZero},
		"1 true + 1 0 / +":       {api.ErrType, api.ErrType},
		"true 0 /":               {api.ErrType, api.ErrType},
		"true 0 %":               {api.ErrType, api.ErrType},
		"1 false /":              {api.ErrType, api.ErrType},
		"1 0 / b true + +":       {api.ErrNone, api.ErrZero},
		"1 0 / true neg b + +":   {api.ErrType, api.ErrZero},
		"a 0 % b < true neg and": {api.ErrNone, api.ErrZero},
	} {
		checkNoType(t, postfix(t, s), 1, want.noType)
		checkNoValue(t, postfix(t, s), []int64{3}, want.noValue)
	}
	checkNothingOf(t, "1/0+b", []int64{3}, api.ErrZero)
	checkNothingOf(t, "b+1/0", []int64{3}, api.ErrNone)
	checkNothingOf(t, "true+b", []int64{3}, api.ErrNone)
	checkNothingOf(t, "(true+a)+b", []int64{3}, api.ErrType)
}

// P4.1, P4.2: what may not be is ErrForm itself, whatever else is at fault.

func TestPostfixesThatMayNotBe(t *testing.T) {
	bad := [][]api.Tok{
		nil, {}, {{}}, {{Kind: -1}}, {{Kind: 20}}, {{Kind: math.MinInt}}, {{Kind: math.MaxInt}},
		{{Kind: api.Num, N: -1}}, {{Kind: api.Num, N: least}}, {{Kind: api.Num, N: 1, At: 1}},
		{{Kind: api.Var, N: -1}}, {{Kind: api.Var, N: 26}}, {{Kind: api.Var, N: greatest}}, {{Kind: api.Var, N: least}}, {{Kind: api.Var, At: -1}},
		{{Kind: api.True, N: 1}}, {{Kind: api.False, N: -1}}, {{Kind: api.True, At: 1}},
		{{Kind: api.Num, N: 1}, {Kind: api.Neg, N: 1}}, {{Kind: api.Num, N: 1}, {Kind: api.Neg, At: 1}},
		{{Kind: api.Open}, {Kind: api.Num, N: 1}, {Kind: api.Close}}, {{Kind: api.Open}}, {{Kind: api.Close}},
	}
	for _, s := range []string{
		"+", "neg", "not", "a +", "a b", "a b + +", "true false", "1 + 2", "1 2 3 +",
		"z true + +", "1 0 / 2", "1 not 2", "z 1", "true neg neg 1 0 /",
	} {
		bad = append(bad, postfix(t, s))
	}
	for _, p := range bad {
		for _, env := range [][]int64{nil, {}, upTo(1), upTo(30)} {
			checkNoType(t, p, len(env), api.ErrForm)
			checkNoValue(t, p, env, api.ErrForm)
		}
		checkNoType(t, p, -1, api.ErrForm)
	}
}

// P4.1, P4.2: MaxToks tokens may be, one more may not: of one that is deep, of
// one that goes on, and of one that has all it takes ahead of it.

func TestLengthsOfPostfixes(t *testing.T) {
	deep := postfix(t, "1"+strings.Repeat(" neg", 100))
	checkWorthOf(t, deep[:99], number(1))
	checkWorthOf(t, deep[:100], number(-1))
	checkNoType(t, deep, 0, api.ErrForm)
	checkNoValue(t, deep, nil, api.ErrForm)
	long := postfix(t, "true not"+strings.Repeat(" true !=", 50))
	checkWorthOf(t, long[:100], truth(true))
	checkNoType(t, long[:102], 0, api.ErrForm)
	checkNoValue(t, long[:102], nil, api.ErrForm)
	wide := postfix(t, strings.Repeat("1 ", 50)+strings.Repeat("- ", 49)+"neg")
	checkWorthOf(t, wide, number(0))
	wider := postfix(t, strings.Repeat("1 ", 51)+strings.Repeat("- ", 50))
	checkNoType(t, wider, 0, api.ErrForm)
	checkNoValue(t, wider, nil, api.ErrForm)
}

func checkWorthOf(t *testing.T, p []api.Tok, want api.Val) {
	t.Helper()
	checkType(t, p, 0, want.Kind)
	checkEval(t, p, nil, want)
}

// P4.3: a text of MaxText bytes, and of one more; one whose postfix is of
// MaxToks tokens, and of more.

func TestLengthsOfTexts(t *testing.T) {
	for size, want := range map[int]bool{199: true, 200: true, 201: false, 1000: false} {
		s := strings.Repeat(" ", size-5) + "7/2+a"
		if want {
			checkOf(t, s, []int64{4}, number(7))
		} else {
			checkNothingOf(t, s, []int64{4}, api.ErrLarge)
		}
	}
	checkOf(t, strings.Repeat("-", 99)+"a", []int64{4}, number(-4))
	checkNothingOf(t, strings.Repeat("-", 100)+"a", []int64{4}, api.ErrLarge)
	checkNothingOf(t, strings.Repeat("-", 199)+"z", nil, api.ErrLarge)
	checkNothingOf(t, strings.Repeat("?", 201), nil, api.ErrLarge)
}

// P4.3: parse.Parse's errors as it tells them, ahead of Eval's, and no value.

func TestErrorsOfTexts(t *testing.T) {
	for s, at := range map[string]int{
		"": 0, "   ": 3, "a+": 2, "a b": 2, "a<b<c": 3, "(a": 2, "1+not a": 2, ")": 0, "a ? b": 2, "ab": 0,
		"1 9223372036854775808": 2, "1/0 1": 4, "z+true)": 6, "z =": 2, "\xff": 0,
	} {
		got, err := expr.Of(s, []int64{1})
		spot, ok := err.(*api.Spot)
		if !ok || *spot != (api.Spot{At: at, Err: api.ErrForm}) || got != (api.Val{}) {
			t.Errorf("Of(%q) = %v, %v, want none, and ErrForm at %d", s, got, err, at)
		}
		if _, noParse := parse.Parse(s); ok && *noParse.(*api.Spot) != *spot {
			t.Errorf("Of(%q): %v, but Parse: %v", s, err, noParse)
		}
	}
	checkNothingOf(t, "a+true", []int64{1}, api.ErrType)
	checkNothingOf(t, "not 1", []int64{1}, api.ErrType)
	checkNothingOf(t, "a and b", []int64{1}, api.ErrNone)
	checkNothingOf(t, "a and a", []int64{1}, api.ErrType)
}

// P4.4: what is handed in stays as it is, behind its end, too; and nothing is
// kept: asked again, and once that is changed, each tells as before.

func TestWhatIsHandedInStays(t *testing.T) {
	p := postfix(t, "a b + 2 * c neg < true and a b c")
	env := []int64{3, -4, 5, 6, 7}
	wasP, wasEnv := slices.Clone(p), slices.Clone(env)
	for _, end := range []int{0, 1, 2, 3, 5, 6, 7, 8, 10, len(p)} {
		for vars := range env {
			kind, noKind := expr.Type(p[:end], vars)
			val, noVal := expr.Eval(p[:end], env[:vars])
			expr.Of("a+b<c*-2", env[:vars])
			if !slices.Equal(p, wasP) || !slices.Equal(env, wasEnv) {
				t.Fatalf("%v, %v became %v, %v", wasP, wasEnv, p, env)
			}
			again, noAgain := expr.Type(p[:end], vars)
			second, noSecond := expr.Eval(p[:end], env[:vars])
			if again != kind || noAgain != noKind || second != val || noSecond != noVal {
				t.Errorf("%v, %v: first %d, %v, then %d, %v", p[:end], env[:vars], kind, val, again, second)
			}
		}
	}
	env[0], p[3].N = 100, 50
	checkEval(t, p[:5], env, number(4800))
	checkOf(t, "a", env, number(100))
}
