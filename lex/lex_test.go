package lex_test

import (
	"errors"
	"math"
	"math/big"
	"regexp"
	"slices"
	"strings"
	"testing"

	"spinet/api"
	"spinet/lex"
)

const (
	greatest     = math.MaxInt64
	greatestText = "9223372036854775807"
)

// tok is a token that begins at a byte.
func tok(kind int, n int64, at int) api.Tok { return api.Tok{Kind: kind, N: n, At: at} }

func checkTokens(t *testing.T, s string, want ...api.Tok) {
	t.Helper()
	got, err := lex.Tokens(s)
	if err != nil || !slices.Equal(got, want) {
		t.Errorf("Tokens(%q) = %v, %v, want %v", s, got, err, want)
	}
}

// checkNoForm is P2.1's ErrForm: a Spot with the place, and no tokens (R3).
func checkNoForm(t *testing.T, s string, at int) {
	t.Helper()
	l, err := lex.Tokens(s)
	spot, ok := err.(*api.Spot)
	if !ok || *spot != (api.Spot{At: at, Err: api.ErrForm}) {
		t.Errorf("Tokens(%q): %v, want ErrForm at %d", s, err, at)
	}
	if !errors.Is(err, api.ErrForm) || len(l) != 0 {
		t.Errorf("Tokens(%q) = %v, %v, want none, and ErrForm", s, l, err)
	}
}

// checkLarge is P2.1's ErrLarge: the Code itself, and no tokens (R3).
func checkLarge(t *testing.T, s string) {
	t.Helper()
	l, err := lex.Tokens(s)
	if err != error(api.ErrLarge) || len(l) != 0 {
		t.Errorf("Tokens of %d bytes = %v, %v, want none, and ErrLarge itself", len(s), l, err)
	}
}

// P2.1: ordinary texts.

func TestTokensOfOrdinaryTexts(t *testing.T) {
	checkTokens(t, "a+1", tok(api.Var, 0, 0), tok(api.Add, 0, 1), tok(api.Num, 1, 2))
	checkTokens(t, "not (b<=12 or true)",
		tok(api.Not, 0, 0), tok(api.Open, 0, 4), tok(api.Var, 1, 5), tok(api.Le, 0, 6), tok(api.Num, 12, 8),
		tok(api.Or, 0, 11), tok(api.True, 0, 14), tok(api.Close, 0, 18))
	checkTokens(t, "x*2 - y/3 % 7 == 0 and z != 1 or false",
		tok(api.Var, 23, 0), tok(api.Mul, 0, 1), tok(api.Num, 2, 2), tok(api.Sub, 0, 4),
		tok(api.Var, 24, 6), tok(api.Div, 0, 7), tok(api.Num, 3, 8), tok(api.Mod, 0, 10), tok(api.Num, 7, 12),
		tok(api.Eq, 0, 14), tok(api.Num, 0, 17), tok(api.And, 0, 19), tok(api.Var, 25, 23), tok(api.Ne, 0, 25),
		tok(api.Num, 1, 28), tok(api.Or, 0, 30), tok(api.False, 0, 33))
}

// P2.1: each token alone, with spaces ahead and behind.

func TestEachToken(t *testing.T) {
	for s, kind := range map[string]int{
		"+": api.Add, "-": api.Sub, "*": api.Mul, "/": api.Div, "%": api.Mod,
		"<": api.Lt, "<=": api.Le, "==": api.Eq, "!=": api.Ne,
		"and": api.And, "or": api.Or, "not": api.Not, "true": api.True, "false": api.False,
		"(": api.Open, ")": api.Close,
	} {
		checkTokens(t, s, tok(kind, 0, 0))
		checkTokens(t, "  "+s+" ", tok(kind, 0, 2))
		checkTokens(t, s+" "+s, tok(kind, 0, 0), tok(kind, 0, len(s)+1))
	}
}

func TestOneLetterIsAVar(t *testing.T) {
	for n := range int64(26) {
		letter := string(rune('a' + n))
		checkTokens(t, letter, tok(api.Var, n, 0))
		checkTokens(t, "7"+letter+" ", tok(api.Num, 7, 0), tok(api.Var, n, 1))
	}
}

func TestSeveralLetters(t *testing.T) {
	checkTokens(t, "a b", tok(api.Var, 0, 0), tok(api.Var, 1, 2))
	checkTokens(t, "not not a", tok(api.Not, 0, 0), tok(api.Not, 0, 4), tok(api.Var, 0, 8))
	checkTokens(t, "1and2", tok(api.Num, 1, 0), tok(api.And, 0, 1), tok(api.Num, 2, 4))
	for _, s := range []string{
		"ab", "aa", "zz", "an", "tru", "fals", "no", "ora", "oor", "ands", "aand", "nott", "nota", "truea",
		"falsetrue", "trueand", "andor", "notnot", "neg", "num", "open", strings.Repeat("a", api.MaxText),
	} {
		checkNoForm(t, s, 0)
		if len(s) < api.MaxText-4 {
			checkNoForm(t, "1 + "+s, 4)
			checkNoForm(t, s+"(", 0)
		}
	}
	checkNoForm(t, "12abc", 2)
	checkNoForm(t, "a + bc + de", 4)
}

// P2.1: numbers, up to the greatest.

func TestNumbers(t *testing.T) {
	for s, n := range map[string]int64{
		"0": 0, "1": 1, "9": 9, "10": 10, "1234567890": 1234567890,
		"00": 0, "007": 7, "000100": 100,
		"9223372036854775806": greatest - 1, "9223372036854775807": greatest,
		"0009223372036854775807":                greatest,
		strings.Repeat("0", api.MaxText):        0,
		strings.Repeat("0", 199) + "5":          5,
		strings.Repeat("0", 181) + greatestText: greatest,
	} {
		checkTokens(t, s, tok(api.Num, n, 0))
	}
	checkTokens(t, "1 2", tok(api.Num, 1, 0), tok(api.Num, 2, 2))
	checkTokens(t, "-5", tok(api.Sub, 0, 0), tok(api.Num, 5, 1))
	checkTokens(t, "-9223372036854775807", tok(api.Sub, 0, 0), tok(api.Num, greatest, 1))
}

func TestNumbersTooGreat(t *testing.T) {
	for _, s := range []string{
		"9223372036854775808", "9223372036854775809", "9223372036854775810", "9999999999999999999",
		"10000000000000000000", "18446744073709551615", "18446744073709551616", "18446744073709551617",
		"92233720368547758070", "0009223372036854775808",
		strings.Repeat("9", api.MaxText), "1" + strings.Repeat("0", 199),
	} {
		checkNoForm(t, s, 0)
		if len(s) < 100 {
			checkNoForm(t, "a<"+s+" @", 2)
			checkNoForm(t, " -"+s, 2)
		}
	}
}

// P2.1: the empty text, and spaces alone, have no tokens.

func TestTextsWithoutTokens(t *testing.T) {
	for _, s := range []string{"", " ", "   ", strings.Repeat(" ", api.MaxText)} {
		checkTokens(t, s)
	}
}

// P2.1: MaxText bytes are not too long, one more are, whatever they are.

func TestLength(t *testing.T) {
	full := strings.Repeat("+", api.MaxText)
	l, err := lex.Tokens(full)
	if err != nil || len(l) != api.MaxText {
		t.Errorf("%d tokens, %v", len(l), err)
	}
	for at, got := range l {
		if got != tok(api.Add, 0, at) {
			t.Errorf("token %d is %v", at, got)
		}
	}
	checkTokens(t, strings.Repeat(" ", 199)+"z", tok(api.Var, 25, 199))
	checkNoForm(t, strings.Repeat(" ", 199)+"=", 199)
	checkNoForm(t, strings.Repeat(" ", 198)+"ox", 198)
	for _, s := range []string{
		full + "+", strings.Repeat(" ", 201), strings.Repeat("1", 201), strings.Repeat("a", 201),
		"@" + full, strings.Repeat("é", 101), strings.Repeat("x ", 5000),
	} {
		checkLarge(t, s)
	}
}

// P2.1: the longest sign that can stand there; what only begins like one is none.

func TestSignsWithoutASpaceBetween(t *testing.T) {
	checkTokens(t, "<<=", tok(api.Lt, 0, 0), tok(api.Le, 0, 1))
	checkTokens(t, "<===", tok(api.Le, 0, 0), tok(api.Eq, 0, 2))
	checkTokens(t, "====", tok(api.Eq, 0, 0), tok(api.Eq, 0, 2))
	checkTokens(t, "!===", tok(api.Ne, 0, 0), tok(api.Eq, 0, 2))
	checkTokens(t, "<!=", tok(api.Lt, 0, 0), tok(api.Ne, 0, 1))
	checkTokens(t, "a<-1", tok(api.Var, 0, 0), tok(api.Lt, 0, 1), tok(api.Sub, 0, 2), tok(api.Num, 1, 3))
	checkTokens(t, "a==-b", tok(api.Var, 0, 0), tok(api.Eq, 0, 1), tok(api.Sub, 0, 3), tok(api.Var, 1, 4))
	checkTokens(t, "+-*/%<()",
		tok(api.Add, 0, 0), tok(api.Sub, 0, 1), tok(api.Mul, 0, 2), tok(api.Div, 0, 3), tok(api.Mod, 0, 4),
		tok(api.Lt, 0, 5), tok(api.Open, 0, 6), tok(api.Close, 0, 7))
}

func TestWhatOnlyBeginsLikeASign(t *testing.T) {
	for s, at := range map[string]int{
		"=": 0, "!": 0, "= =": 0, "! =": 0, "=<": 0, "!a": 0, "=a": 0, "!!=": 0, "=!=": 0,
		"<==": 2, "===": 2, "!==": 2, "< =": 2, "<=!": 2, "a=b": 1, "a = b": 2, "a!b": 1,
		">": 0, ">=": 0, "<>": 1, "a>b": 1, "&": 0, "&&": 0, "|": 0, "^": 0, "~": 0,
	} {
		checkNoForm(t, s, at)
	}
}

// P2.1: every byte, alone and behind a token: it begins a token, or it doesn't.

func TestEachByte(t *testing.T) {
	begins := "+-*/%<()0123456789abcdefghijklmnopqrstuvwxyz "
	for b := range 256 {
		s := string([]byte{byte(b)})
		if strings.Contains(begins, s) {
			if _, err := lex.Tokens(s); err != nil {
				t.Errorf("Tokens(%q): %v", s, err)
			}
			continue
		}
		checkNoForm(t, s, 0)
		checkNoForm(t, "a + "+s, 4)
		checkNoForm(t, "12"+s+" =", 2)
		checkNoForm(t, "x"+s+"y", 1)
	}
	checkNoForm(t, "a\t+ 1", 1)
	checkNoForm(t, "a +\n1", 3)
	checkNoForm(t, "a\u00a0", 1)
	checkNoForm(t, "A+1", 0)
	checkNoForm(t, "tRue", 1)
}

// reference splits a text by a rule of its own: at is the fault's byte, or -1.
func reference(s string) (l []api.Tok, at int) {
	piece := regexp.MustCompile(`^(?:[0-9]+|[a-z]+|<=|==|!=|[-+*/%<()])`)
	kinds := strings.Fields(". . . + - * / % < <= == != and or not true false ( )")
	for at = 0; at < len(s); {
		if s[at] == ' ' {
			at++
			continue
		}
		p := piece.FindString(s[at:])
		kind, n := slices.Index(kinds, p), int64(0)
		switch {
		case p == "":
			return nil, at
		case p[0] >= '0' && p[0] <= '9':
			number, _ := new(big.Int).SetString(p, 10)
			if !number.IsInt64() {
				return nil, at
			}
			kind, n = api.Num, number.Int64()
		case len(p) == 1 && p[0] >= 'a' && p[0] <= 'z':
			kind, n = api.Var, int64(p[0])-'a'
		case kind < 0:
			return nil, at
		}
		l = append(l, tok(kind, n, at))
		at += len(p)
	}
	return l, -1
}

// eachText hands on every row of up to so many pieces.
func eachText(pieces []string, most int, try func(s string)) {
	var grow func(s string, left int)
	grow = func(s string, left int) {
		try(s)
		if left == 0 {
			return
		}
		for _, p := range pieces {
			grow(s+p, left-1)
		}
	}
	grow("", most)
}

// P2.1: all short texts of some pieces, held against the reference.

func TestAllShortTexts(t *testing.T) {
	pieces := []string{
		"a", "z", "or", "not", "true", "0", "7", "9223372036854775807", " ", "<", "=", "!", "-", "(", ">", "\x00",
	}
	eachText(pieces, 4, func(s string) {
		want, at := reference(s)
		if at >= 0 {
			checkNoForm(t, s, at)
			return
		}
		checkTokens(t, s, want...)
	})
}

// P2.2: the tokens' texts, a space between each two.

func TestTextOfOrdinaryTokens(t *testing.T) {
	for _, c := range []struct {
		l    []api.Tok
		want string
	}{
		{nil, ""}, {[]api.Tok{}, ""},
		{[]api.Tok{{Kind: api.Var}, {Kind: api.Add}, {Kind: api.Num, N: 1}}, "a + 1"},
		{[]api.Tok{{Kind: api.Num, N: 0}}, "0"},
		{[]api.Tok{{Kind: api.Num, N: greatest}}, "9223372036854775807"},
		{[]api.Tok{{Kind: api.Var, N: 25}, {Kind: api.Var, N: 0}}, "z a"},
		{[]api.Tok{{Kind: api.Lt}, {Kind: api.Le}, {Kind: api.Eq}, {Kind: api.Ne}}, "< <= == !="},
		{[]api.Tok{{Kind: api.Not, At: 77}, {Kind: api.Open, At: -5}, {Kind: api.True, At: math.MinInt}, {Kind: api.Close, At: math.MaxInt}}, "not ( true )"},
	} {
		if got, err := lex.Text(c.l); err != nil || got != c.want {
			t.Errorf("Text(%v) = %q, %v, want %q", c.l, got, err, c.want)
		}
	}
}

func TestTextOfEachKind(t *testing.T) {
	texts := strings.Fields(". 12 c + - * / % < <= == != and or not true false ( )")
	for kind := api.Num; kind <= api.Close; kind++ {
		n := map[int]int64{api.Num: 12, api.Var: 2}[kind]
		if got, err := lex.Text([]api.Tok{tok(kind, n, 3)}); err != nil || got != texts[kind] {
			t.Errorf("Text of Kind %d = %q, %v, want %q", kind, got, err, texts[kind])
		}
	}
}

func TestTextOfManyTokens(t *testing.T) {
	l := slices.Repeat([]api.Tok{{Kind: api.False}}, 1000)
	got, err := lex.Text(l)
	if want := strings.Repeat("false ", 999) + "false"; err != nil || got != want {
		t.Errorf("%d bytes, %v, want %d", len(got), err, len(want))
	}
}

// P2.2, R3: a Kind, or an N, that may not be: ErrArg itself, and no text.

func TestTextOfWhatMayNotBe(t *testing.T) {
	bad := []api.Tok{
		{}, {Kind: -1}, {Kind: api.Neg}, {Kind: 20}, {Kind: math.MinInt}, {Kind: math.MaxInt}, {Kind: 0, N: 1},
		{Kind: api.Num, N: -1}, {Kind: api.Num, N: math.MinInt64},
		{Kind: api.Var, N: -1}, {Kind: api.Var, N: 26}, {Kind: api.Var, N: 256}, {Kind: api.Var, N: 1 << 32},
		{Kind: api.Var, N: greatest}, {Kind: api.Var, N: math.MinInt64},
	}
	for kind := api.Add; kind <= api.Close; kind++ {
		for _, n := range []int64{1, -1, 1 << 32, greatest, math.MinInt64} {
			bad = append(bad, tok(kind, n, 0))
		}
	}
	good := api.Tok{Kind: api.Num, N: 4}
	for _, b := range bad {
		for _, l := range [][]api.Tok{{b}, {good, b}, {b, good}, {good, b, good, b}} {
			if got, err := lex.Text(l); got != "" || err != error(api.ErrArg) {
				t.Errorf("Text(%v) = %q, %v, want no text, and ErrArg itself", l, got, err)
			}
		}
	}
}

// P2.3: what is handed in stays as it is, behind its end, too; nothing is kept.

func TestWhatIsHandedInStays(t *testing.T) {
	for _, l := range [][]api.Tok{
		{{Kind: api.Var, N: 3, At: 9}, {Kind: api.Add, At: 2}, {Kind: api.Num, N: 5, At: -1}},
		{{Kind: api.Var, N: 3, At: 9}, {Kind: api.Neg, At: 2}, {Kind: api.Num, N: 5, At: -1}},
	} {
		before := slices.Clone(l)
		first, noFirst := lex.Text(l[:2])
		second, noSecond := lex.Text(l[:2])
		if !slices.Equal(l, before) || first != second || noFirst != noSecond {
			t.Errorf("%v became %v; %q, %v and then %q, %v", before, l, first, noFirst, second, noSecond)
		}
	}
}

func TestWhatIsToldIsNew(t *testing.T) {
	const s = "a + 1"
	first, _ := lex.Tokens(s)
	second, _ := lex.Tokens(s)
	for i := range first {
		first[i] = tok(api.Close, 9, 9)
	}
	first = append(first[:1], tok(api.Open, 8, 8))
	checkTokens(t, s, second...)
	checkTokens(t, s, tok(api.Var, 0, 0), tok(api.Add, 0, 2), tok(api.Num, 1, 4))
	if first[1] != tok(api.Open, 8, 8) {
		t.Error("the first list changed")
	}
}

func TestErrorsToldAreNew(t *testing.T) {
	_, first := lex.Tokens("a ?")
	first.(*api.Spot).At = 7
	checkNoForm(t, "a ?", 2)
}

// checkRoundTrip is P2.4: the tokens of a text that Text made are the same but
// for At.
func checkRoundTrip(t *testing.T, l []api.Tok) {
	t.Helper()
	s, err := lex.Text(l)
	if err != nil {
		t.Errorf("Text(%v): %v", l, err)
		return
	}
	if len(s) > api.MaxText {
		checkLarge(t, s)
		return
	}
	got, err := lex.Tokens(s)
	if err != nil || len(got) != len(l) {
		t.Errorf("Tokens(%q) = %v, %v, want %v", s, got, err, l)
		return
	}
	for i := range got {
		if got[i].Kind != l[i].Kind || got[i].N != l[i].N || !strings.HasPrefix(s[got[i].At:], textOf(t, l[i])) {
			t.Errorf("token %d of %q is %v, want %v", i, s, got[i], l[i])
		}
	}
}

func textOf(t *testing.T, one api.Tok) string {
	t.Helper()
	s, err := lex.Text([]api.Tok{one})
	if err != nil {
		t.Errorf("Text of %v: %v", one, err)
	}
	return s
}

// P2.4: every pair of tokens, and long rows by a fixed rule.

func TestTokensOfTextAreTheSame(t *testing.T) {
	all := []api.Tok{tok(api.Num, 0, 1), tok(api.Num, 10, 5), tok(api.Num, greatest, -3)}
	for n := range int64(26) {
		all = append(all, tok(api.Var, n, int(n)))
	}
	for kind := api.Add; kind <= api.Close; kind++ {
		all = append(all, tok(kind, 0, 40-kind))
	}
	checkRoundTrip(t, nil)
	for _, a := range all {
		checkRoundTrip(t, []api.Tok{a})
		for _, b := range all {
			checkRoundTrip(t, []api.Tok{a, b})
		}
	}
	x := uint32(1)
	for size := range 300 {
		var l []api.Tok
		for range size % 70 {
			x = x*1664525 + 1013904223
			l = append(l, all[int(x>>16)%len(all)])
		}
		checkRoundTrip(t, l)
	}
}

func TestTokensOfTextAtTheLength(t *testing.T) {
	row := slices.Repeat([]api.Tok{{Kind: api.Add}}, 100)
	checkRoundTrip(t, row)                                        // 199 bytes
	checkRoundTrip(t, append(row[:99:99], api.Tok{Kind: api.Le})) // 200
	checkRoundTrip(t, append(row[:99:99], api.Tok{Kind: api.Or})) // 200
	checkRoundTrip(t, append(row[:100:100], api.Tok{Kind: api.Var}))
}

// P1: no call panics, whatever bytes and tokens it is given.

func FuzzTokens(f *testing.F) {
	for _, s := range []string{"", "a+1", "not (b <= 12)", "=", "99999999999999999999", "\xff", "<=!"} {
		f.Add(s)
	}
	f.Fuzz(func(t *testing.T, s string) {
		if len(s) > api.MaxText {
			checkLarge(t, s)
			return
		}
		want, at := reference(s)
		if at >= 0 {
			checkNoForm(t, s, at)
			return
		}
		checkTokens(t, s, want...)
		checkRoundTrip(t, want)
	})
}

func FuzzText(f *testing.F) {
	f.Add(1, int64(4), 0)
	f.Add(19, int64(0), -1)
	f.Add(2, int64(26), 7)
	f.Fuzz(func(t *testing.T, kind int, n int64, at int) {
		may := kind == api.Num && n >= 0 || kind == api.Var && n >= 0 && n <= 25 || kind >= api.Add && kind <= api.Close && n == 0
		one := tok(kind, n, at)
		if may {
			checkRoundTrip(t, []api.Tok{one})
			return
		}
		if got, err := lex.Text([]api.Tok{one}); got != "" || err != error(api.ErrArg) {
			t.Errorf("Text of %v = %q, %v", one, got, err)
		}
	})
}
