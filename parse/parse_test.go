package parse_test

import (
	"errors"
	"math"
	"slices"
	"strconv"
	"strings"
	"testing"

	"spinet/api"
	"spinet/lex"
	"spinet/parse"
)

const (
	greatest     = math.MaxInt64
	greatestText = "9223372036854775807"
)

// kinds are, by their Kinds, what postfixes are written with here.
var kinds = strings.Fields("... ... ... + - * / % < <= == != and or not true false ... ... neg")

// postfix is what is written so: its tokens with a space between each two.
func postfix(t *testing.T, s string) []api.Tok {
	t.Helper()
	var p []api.Tok
	for _, w := range strings.Fields(s) {
		n, err := strconv.ParseInt(w, 10, 64)
		kind := slices.Index(kinds, w)
		switch {
		case err == nil:
			p = append(p, api.Tok{Kind: api.Num, N: n})
		case len(w) == 1 && w[0] >= 'a' && w[0] <= 'z':
			p = append(p, api.Tok{Kind: api.Var, N: int64(w[0]) - 'a'})
		case kind >= api.Add:
			p = append(p, api.Tok{Kind: kind})
		default:
			t.Fatalf("no token of a postfix: %q", w)
		}
	}
	return p
}

func checkParse(t *testing.T, s, want string) {
	t.Helper()
	got, err := parse.Parse(s)
	if err != nil || !slices.Equal(got, postfix(t, want)) {
		t.Errorf("Parse(%q) = %v, %v, want %s", s, got, err, want)
	}
}

// checkNoForm is P3.1's ErrForm: a Spot with the place, and no postfix (R3).
func checkNoForm(t *testing.T, s string, at int) {
	t.Helper()
	p, err := parse.Parse(s)
	spot, ok := err.(*api.Spot)
	if !ok || *spot != (api.Spot{At: at, Err: api.ErrForm}) {
		t.Errorf("Parse(%q): %v, want ErrForm at %d", s, err, at)
	}
	if !errors.Is(err, api.ErrForm) || len(p) != 0 {
		t.Errorf("Parse(%q) = %v, %v, want none, and ErrForm", s, p, err)
	}
}

// checkLarge is P3.1's ErrLarge: the Code itself, and no postfix (R3).
func checkLarge(t *testing.T, s string) {
	t.Helper()
	if p, err := parse.Parse(s); err != error(api.ErrLarge) || len(p) != 0 {
		t.Errorf("Parse(%q) = %v, %v, want none, and ErrLarge itself", s, p, err)
	}
}

func checkText(t *testing.T, p []api.Tok, want string) {
	t.Helper()
	if !parse.May(p) {
		t.Errorf("May(%v) is false", p)
	}
	if got, err := parse.Text(p); err != nil || got != want {
		t.Errorf("Text(%v) = %q, %v, want %q", p, got, err, want)
	}
}

// checkMayNot is P3.2: May is false, and Text tells ErrArg itself, and no text.
func checkMayNot(t *testing.T, p []api.Tok) {
	t.Helper()
	if parse.May(p) {
		t.Errorf("May(%v) is true", p)
	}
	if s, err := parse.Text(p); s != "" || err != error(api.ErrArg) {
		t.Errorf("Text(%v) = %q, %v, want no text, and ErrArg itself", p, s, err)
	}
}

// P3.1: ordinary expressions.

func TestOrdinaryExpressions(t *testing.T) {
	checkParse(t, "a+1<2", "a 1 + 2 <")
	checkParse(t, "a", "a")
	checkParse(t, "12", "12")
	checkParse(t, "true", "true")
	checkParse(t, " false ", "false")
	checkParse(t, "a == 1 and not b < 2 or c", "a 1 == b 2 < not and c or")
	checkParse(t, "x*(y-1)%3 != -z", "x y 1 - * 3 % z neg !=")
}

func TestFromTheLeftOn(t *testing.T) {
	signs := []string{"+", "-", "*", "/", "%", "and", "or"}
	for _, s := range signs {
		checkParse(t, "a "+s+" b", "a b "+s)
		checkParse(t, "a "+s+" b "+s+" c", "a b "+s+" c "+s)
		checkParse(t, "a "+s+" (b "+s+" c)", "a b c "+s+" "+s)
		checkParse(t, "a "+s+" b "+s+" c "+s+" d", "a b "+s+" c "+s+" d "+s)
	}
	checkParse(t, "a-b+c-d", "a b - c + d -")
	checkParse(t, "a/b*c%d", "a b / c * d %")
	checkParse(t, "a%b/c*d", "a b % c / d *")
	for _, s := range []string{"<", "<=", "==", "!="} {
		checkParse(t, "a"+s+"b", "a b "+s)
		checkParse(t, "(a"+s+"b)"+s+"c", "a b "+s+" c "+s)
		checkParse(t, "a"+s+"(b"+s+"c)", "a b c "+s+" "+s)
	}
}

// P3.1: each that stands between two, ahead of and behind each other.

func TestWhichBindsMoreStrongly(t *testing.T) {
	ranks := [][]string{{"or"}, {"and"}, {"<", "<=", "==", "!="}, {"+", "-"}, {"*", "/", "%"}}
	for i, weak := range ranks {
		for _, strong := range ranks[i+1:] {
			for _, w := range weak {
				for _, s := range strong {
					checkParse(t, "a "+w+" b "+s+" c", "a b c "+s+" "+w)
					checkParse(t, "a "+s+" b "+w+" c", "a b "+s+" c "+w)
					checkParse(t, "(a "+w+" b) "+s+" c", "a b "+w+" c "+s)
					checkParse(t, "a "+s+" (b "+w+" c)", "a b c "+w+" "+s)
				}
			}
		}
	}
}

func TestNot(t *testing.T) {
	checkParse(t, "not a", "a not")
	checkParse(t, "not not a", "a not not")
	checkParse(t, "not a<b", "a b < not")
	checkParse(t, "not a+b == c*d", "a b + c d * == not")
	checkParse(t, "not not a<=b", "a b <= not not")
	checkParse(t, "(not a)<b", "a not b <")
	checkParse(t, "not a and b", "a not b and")
	checkParse(t, "a and not b", "a b not and")
	checkParse(t, "not a or not b and not c", "a not b not c not and or")
	checkParse(t, "not (a and b)", "a b and not")
	checkParse(t, "not -a", "a neg not")
	checkParse(t, "-(not a)", "a not neg")
	checkParse(t, "a+(not b)", "a b not +")
}

func TestSubAheadOfOne(t *testing.T) {
	checkParse(t, "-a", "a neg")
	checkParse(t, "--a", "a neg neg")
	checkParse(t, "- - -a", "a neg neg neg")
	checkParse(t, "-5", "5 neg")
	checkParse(t, "-true", "true neg")
	checkParse(t, "a-b", "a b -")
	checkParse(t, "a--b", "a b neg -")
	checkParse(t, "a---b", "a b neg neg -")
	checkParse(t, "-a-b", "a neg b -")
	checkParse(t, "-a*b", "a neg b *")
	checkParse(t, "a*-b", "a b neg *")
	checkParse(t, "a*-b*c", "a b neg * c *")
	checkParse(t, "-(a*b)", "a b * neg")
	checkParse(t, "-(-a)", "a neg neg")
	checkParse(t, "-a<-b", "a neg b neg <")
	checkParse(t, "-a+-b", "a neg b neg +")
}

func TestBrackets(t *testing.T) {
	checkParse(t, "(a)", "a")
	checkParse(t, "((a))", "a")
	checkParse(t, "( ( a ) + ( 1 ) )", "a 1 +")
	checkParse(t, "(a+b)*(c+d)", "a b + c d + *")
	checkParse(t, "(a or b) and (c or d)", "a b or c d or and")
	checkParse(t, "a-(b-(c-(d-e)))", "a b c d e - - - -")
	checkParse(t, "(((a-b)-c)-d)-e", "a b - c - d - e -")
}

// P3.1: kinds of values are not asked for here.

func TestKindsOfValuesAreFree(t *testing.T) {
	checkParse(t, "true+1", "true 1 +")
	checkParse(t, "1 and 2", "1 2 and")
	checkParse(t, "not 1", "1 not")
	checkParse(t, "a<true", "a true <")
	checkParse(t, "1/0", "1 0 /")
}

// P3.1: each operand, up to the greatest.

func TestOperands(t *testing.T) {
	checkParse(t, "0", "0")
	checkParse(t, "007", "7")
	checkParse(t, greatestText, greatestText)
	checkParse(t, "-"+greatestText, greatestText+" neg")
	checkParse(t, greatestText+"+z", greatestText+" z +")
	for n := range 26 {
		letter := string(rune('a' + n))
		checkParse(t, letter, letter)
		checkParse(t, "(1 - "+letter+")", "1 "+letter+" -")
	}
}

// P3.1: a text of MaxText bytes, and of one more.

func TestLengthOfTexts(t *testing.T) {
	checkParse(t, strings.Repeat(" ", 199)+"z", "z")
	checkParse(t, "z"+strings.Repeat(" ", 199), "z")
	checkParse(t, "a<"+strings.Repeat("0", 197)+"5", "a 5 <")
	checkParse(t, strings.Repeat("0", 181)+greatestText, greatestText)
	for _, s := range []string{
		strings.Repeat(" ", 200) + "z", "z" + strings.Repeat(" ", 200), strings.Repeat("0", 201),
		strings.Repeat(")", 201), strings.Repeat("?", 201), strings.Repeat("a+", 5000),
	} {
		checkLarge(t, s)
	}
}

// P3.1: many brackets, one in the other.

func TestManyBrackets(t *testing.T) {
	for n := range 100 {
		checkParse(t, strings.Repeat("(", n)+"a"+strings.Repeat(")", n), "a")
	}
	open, shut := strings.Repeat("(", 99), strings.Repeat(")", 99)
	checkParse(t, open+"-a"+shut, "a neg")
	checkNoForm(t, open+"a"+shut+")", 199)
	checkNoForm(t, open+"("+shut+")", 100)
	checkNoForm(t, open+"("+"a"+shut, 200)
	checkNoForm(t, strings.Repeat("(", 200), 200)
	checkNoForm(t, strings.Repeat(")", 200), 0)
	checkNoForm(t, strings.Repeat("-", 200), 200)
	checkNoForm(t, strings.Repeat("not ", 50), 200)
	checkParse(t, strings.Repeat("-", 99)+"a", "a"+strings.Repeat(" neg", 99))
	checkParse(t, strings.Repeat("not ", 49)+"a", "a"+strings.Repeat(" not", 49))
	checkParse(t, strings.Repeat("-(", 49)+"a"+strings.Repeat(")", 49), "a"+strings.Repeat(" neg", 49))
}

// P3.1: a postfix of MaxToks tokens, and of one more.

func TestLengthOfPostfixes(t *testing.T) {
	row := "a" + strings.Repeat("+a", 49) // 99 tokens
	want := "a" + strings.Repeat(" a +", 49)
	checkParse(t, row, want)
	checkParse(t, "("+row+")", want)
	checkParse(t, "-"+strings.Replace(row, "+", "*", 1), strings.Replace("a neg"+want[1:], "+", "*", 1))
	checkParse(t, "-("+row+")", want+" neg")
	checkParse(t, "not "+row, want+" not")
	checkLarge(t, row+"+a")
	checkLarge(t, "--"+row)
	checkLarge(t, "not -"+row)
	checkLarge(t, "(("+row+")-(a))")
	checkLarge(t, strings.Repeat("-", 100)+"a")
	checkLarge(t, strings.Repeat("-", 199)+"a")
	checkLarge(t, "a"+strings.Repeat("+a", 99))
}

// R1: a fault is told, wherever it stands, rather than that it is too much.

func TestFaultsAheadOfTooMuch(t *testing.T) {
	row := "a" + strings.Repeat("+a", 60)
	checkNoForm(t, row+"+", 122)
	checkNoForm(t, row+")", 121)
	checkNoForm(t, "("+row, 122)
	checkNoForm(t, row+"  a", 123)
	checkNoForm(t, row+"  ?", 123)
	checkNoForm(t, "a a "+row+"?", 125)
}

// P3.1: lex.Tokens' own errors go ahead, and are told as they are.

func TestErrorsOfTokens(t *testing.T) {
	for s, at := range map[string]int{
		"?": 0, "a = b": 2, "ab": 0, "a+bc": 2, "1 9223372036854775808": 2, "a\t": 1, "!a": 0, "a+\n": 2,
		") ?": 2, "a a a =": 6, "(?": 1, "+ + >": 4, "A": 0, "\xff": 0, "a+é": 2,
	} {
		checkNoForm(t, s, at)
		_, want := lex.Tokens(s)
		_, got := parse.Parse(s)
		if want == nil || got.Error() != want.Error() {
			t.Errorf("Parse(%q): %v, Tokens': %v", s, got, want)
		}
	}
}

// P3.1: a text that ends too early: how many bytes it has.

func TestTextsThatEndTooEarly(t *testing.T) {
	for _, s := range []string{
		"", " ", "   ", strings.Repeat(" ", api.MaxText),
		"(", "((", "( ", "(a", "(a+b", "((a)", "(a)+(b", "(a ", "(a and", "not", "not ", "not not", "-", "- -",
		"a+", "a -  ", "a*", "a/", "a%", "a<", "a<=", "a==", "a!=", "a and", "a or ", "a+b*", "a<b and not",
		"(not", "a-(", "(a<b", "(a or b and c",
	} {
		checkNoForm(t, s, len(s))
	}
}

// P3.1: the first token with which it can't go on.

func TestTokensThatCannotStand(t *testing.T) {
	for s, at := range map[string]int{
		"a<b<c": 3, "a<b==c": 3, "a == b != c": 7, "a<=b<=c": 4, "not a<b<c": 7, "(a<b<c)": 4, "a<b and c<d<e": 11,
		"a b": 2, "1 2": 2, "a1": 1, "1a": 1, "true false": 5, "a true": 2, "a (b)": 2, "(a)(b)": 3, "(a)b": 3,
		")": 0, ") a": 0, "a)": 1, "a+b)": 3, "(a))": 3, "()": 1, "( )": 2, "(a+)": 3, "(-)": 2, "(not )": 5, "a+)": 2, "((a)+()": 6,
		"a+not b": 2, "a<not b": 2, "-not a": 1, "a not": 2, "a not b": 2, "a*not b": 2, "1 - not true": 4, "not a not b": 6,
		"a<b not": 4, "(a not b)": 3, "not a == not b": 9, "a not and b": 2,
		"+": 0, "+a": 0, "*a": 0, "/": 0, "% a": 0, "<a": 0, "<=": 0, "== 1": 0, "!=": 0, "and": 0, "or a": 0, " and": 1,
		"a++b": 2, "a+*b": 2, "a*/b": 2, "a- %b": 3, "a<=<b": 3, "a==<b": 3, "a and and b": 6, "a or or": 5, "a and or b": 6,
		"a + and b": 4, "not and a": 4, "not or": 4, "not + a": 4, "not <": 4, "-+a": 1, "-<": 1, "- and": 2, "a+<b": 2,
		"a and": 5, "a and <": 6, "a or )": 5, "(<a)": 1, "(and": 1, "-)": 1,
	} {
		checkNoForm(t, s, at)
	}
}

// signs are pieces of one byte each, for texts that the grammar below reads.
var signs = map[byte]string{
	'a': "a", '7': "7", 't': "true", '+': "+", '-': "-", '*': "*", '<': "<", '=': "==",
	'&': "and", '|': "or", '!': "not", '(': "(", ')': ")", '~': "neg",
}

// spelled is the text of pieces, with a space between each two, and where each
// begins.
func spelled(pieces string) (string, []int) {
	var words []string
	var at []int
	size := 0
	for i := range len(pieces) {
		w := signs[pieces[i]]
		words, at = append(words, w), append(at, size)
		size += len(w) + 1
	}
	return strings.Join(words, " "), at
}

type read struct {
	level int
	s     string
}

// grammar reads pieces by splitting them, as the chapter's sentence says, and
// remembers what it read: a postfix, or none.
type grammar map[read]string

// rows are, weakest first, what stands between two, or ahead of one.
var rows = []string{"|", "&", "!", "<=", "+-", "*", "-"}

func (g grammar) read(level int, s string) string {
	if p, ok := g[read{level, s}]; ok {
		return p
	}
	p := g.split(level, s)
	g[read{level, s}] = p
	return p
}

func (g grammar) split(level int, s string) string {
	switch {
	case s == "":
		return ""
	case level == len(rows):
		return g.least(s)
	case level == 2 || level == 6:
		if !strings.Contains(rows[level], s[:1]) {
			return g.read(level+1, s)
		}
		if p := g.read(level, s[1:]); p != "" {
			return p + map[int]string{2: "!", 6: "~"}[level]
		}
		return ""
	}
	left := level
	if level == 3 {
		left++ // a comparison is no row
	}
	for i := range len(s) {
		if strings.Contains(rows[level], s[i:i+1]) {
			x, y := g.read(left, s[:i]), g.read(level+1, s[i+1:])
			if x != "" && y != "" {
				return x + y + s[i:i+1]
			}
		}
	}
	return g.read(level+1, s)
}

func (g grammar) least(s string) string {
	last := len(s) - 1
	switch {
	case last == 0 && strings.Contains("a7t", s):
		return s
	case last > 0 && s[0] == '(' && s[last] == ')':
		return g.read(0, s[1:last])
	}
	return ""
}

// goesOn tells whether some expression begins with these: what is lacking can
// be no more than one operand, and brackets.
func (g grammar) goesOn(s string) bool {
	for _, operand := range []string{"", "a"} {
		for n := range len(s) + 1 {
			if g.read(0, s+operand+strings.Repeat(")", n)) != "" {
				return true
			}
		}
	}
	return false
}

func checkByGrammar(t *testing.T, g grammar, pieces string) {
	t.Helper()
	s, at := spelled(pieces)
	for i := range len(pieces) {
		if !g.goesOn(pieces[:i+1]) {
			checkNoForm(t, s, at[i])
			return
		}
	}
	p := g.read(0, pieces)
	if p == "" {
		checkNoForm(t, s, len(s))
		return
	}
	want, _ := spelled(p)
	checkParse(t, s, want)
	checkBracketsChangeNothing(t, s)
}

// P3.1: all short rows of some pieces, held against the grammar.

func TestAllShortRows(t *testing.T) {
	g := grammar{}
	var grow func(s string, pieces string, left int)
	grow = func(s string, pieces string, left int) {
		checkByGrammar(t, g, s)
		for i := 0; i < len(pieces) && left > 0; i++ {
			grow(s+pieces[i:i+1], pieces, left-1)
		}
	}
	grow("", "a7t+-*<=&|!()", 4)
	grow("", "a-<!()", 6)
	grow("", "a+*&|<", 6)
}

// P3.1: longer expressions, and each with one piece changed.

func TestLongerRows(t *testing.T) {
	g := grammar{}
	for _, s := range []string{
		"a+a*a<a-a&!a=7|t", "!!a<-a*-(a|t)+7", "((a)+(a*(a-a)))=(!(a<7))", "a|a&a|!a&!!t|a<a&a", "--a*--a+-(-(-a))",
		"a-a-a*a*a-(a-a)", "(a<a)=(a<a)", "!(a&a|a)&!(a|a&a)",
	} {
		checkByGrammar(t, g, s)
		for i := range len(s) {
			checkByGrammar(t, g, s[:i])
			checkByGrammar(t, g, s[:i]+s[i+1:])
			for p := range signs {
				if p != '~' {
					checkByGrammar(t, g, s[:i]+string(p)+s[i+1:])
				}
			}
		}
	}
}

// P3.2: what Text tells of each kind.

func TestTextOfEachKind(t *testing.T) {
	for p, want := range map[string]string{
		"0": "0", "12": "12", greatestText: greatestText, "a": "a", "z": "z", "true": "true", "false": "false",
		"a neg": "(-a)", "5 neg": "(-5)", "a not": "(not a)", "true not": "(not true)",
		"a b +": "(a+b)", "a b -": "(a-b)", "a b *": "(a*b)", "a b /": "(a/b)", "a b %": "(a%b)",
		"a b <": "(a<b)", "a b <=": "(a<=b)", "a b ==": "(a==b)", "a b !=": "(a!=b)",
		"a b and": "(a and b)", "a b or": "(a or b)",
	} {
		checkText(t, postfix(t, p), want)
	}
}

func TestTextOfOrdinaryPostfixes(t *testing.T) {
	for p, want := range map[string]string{
		"a 1 + 2 <":            "((a+1)<2)",
		"a b - c -":            "((a-b)-c)",
		"a b c - -":            "(a-(b-c))",
		"a neg neg":            "(-(-a))",
		"a not not":            "(not (not a))",
		"a b neg -":            "(a-(-b))",
		"a neg b -":            "((-a)-b)",
		"a b < not c and d or": "(((not (a<b)) and c) or d)",
		"1 2 3 4 5 + - * /":    "(1/(2*(3-(4+5))))",
		"true 1 + false not <": "((true+1)<(not false))",
		"a b < c <":            "((a<b)<c)",
		"a not neg b +":        "((-(not a))+b)",
	} {
		checkText(t, postfix(t, p), want)
	}
}

// P3.2: Vars from a to z.

func TestTextOfEachVar(t *testing.T) {
	for n := range int64(26) {
		checkText(t, []api.Tok{{Kind: api.Var, N: n}}, string(rune('a'+n)))
	}
}

// P3.2: no tokens, and tokens that are none of a postfix's.

func TestPostfixesThatMayNotBe(t *testing.T) {
	checkMayNot(t, nil)
	checkMayNot(t, []api.Tok{})
	for _, p := range []string{
		"neg", "not", "+", "and", "a +", "a or", "a b + +", "a neg neg - b", "a + b", "- a b", "a b not <= <=",
		"a b", "a b c +", "a a neg", "true false", "a not b", "1 2 3", "a b + c d +",
		"not a", "neg 1", "1 + 2 3", "a b + - c d",
	} {
		checkMayNot(t, postfix(t, p))
	}
}

// P3.2: a Kind, an N or an At that may not be, alone and among others.

func TestTokensThatMayNotBe(t *testing.T) {
	bad := []api.Tok{
		{}, {N: 1}, {Kind: -1}, {Kind: api.Open}, {Kind: api.Close}, {Kind: 20}, {Kind: math.MinInt}, {Kind: math.MaxInt},
		{Kind: api.Num, N: -1}, {Kind: api.Num, N: math.MinInt64},
		{Kind: api.Var, N: -1}, {Kind: api.Var, N: 26}, {Kind: api.Var, N: 256}, {Kind: api.Var, N: 1 << 32},
		{Kind: api.Var, N: greatest}, {Kind: api.Var, N: math.MinInt64},
		{Kind: api.True, N: 1}, {Kind: api.False, N: -1}, {Kind: api.True, N: greatest},
	}
	for _, at := range []int{1, -1, 7, math.MinInt, math.MaxInt} {
		bad = append(bad, api.Tok{Kind: api.Num, N: 3, At: at}, api.Tok{Kind: api.Var, At: at}, api.Tok{Kind: api.True, At: at})
	}
	one := api.Tok{Kind: api.Num, N: 4}
	add := api.Tok{Kind: api.Add}
	for _, b := range bad {
		for _, p := range [][]api.Tok{{b}, {one, b, add}, {b, one, add}, {one, one, add, b, add}, {one, b}, {one, one, b}} {
			checkMayNot(t, p)
		}
	}
}

func TestSignsThatMayNotBe(t *testing.T) {
	one := api.Tok{Kind: api.Num, N: 4}
	for kind := api.Add; kind <= api.Neg; kind++ {
		for _, n := range []int64{1, -1, 1 << 32, greatest, math.MinInt64} {
			b := api.Tok{Kind: kind, N: n}
			checkMayNot(t, []api.Tok{one, b})
			checkMayNot(t, []api.Tok{one, one, b})
		}
		for _, at := range []int{1, -1, math.MinInt, math.MaxInt} {
			b := api.Tok{Kind: kind, At: at}
			checkMayNot(t, []api.Tok{one, b})
			checkMayNot(t, []api.Tok{one, one, b})
		}
	}
}

// P3.2: MaxToks tokens may be, one more may not; a text of MaxText bytes is not
// too long, one more is.

func TestLengthsOfPostfixesAndTexts(t *testing.T) {
	one := []api.Tok{{Kind: api.Num, N: 1}}
	neg := slices.Repeat([]api.Tok{{Kind: api.Neg}}, 1000)
	checkText(t, slices.Concat(one, neg[:66]), strings.Repeat("(-", 66)+"1"+strings.Repeat(")", 66)) // 199 bytes
	one[0].N = 12
	checkText(t, slices.Concat(one, neg[:66]), strings.Repeat("(-", 66)+"12"+strings.Repeat(")", 66)) // 200
	one[0].N = 123
	checkTooLong(t, slices.Concat(one, neg[:66])) // 201
	checkTooLong(t, slices.Concat(one, neg[:99]))
	checkMayNot(t, slices.Concat(one, neg[:100]))
	checkMayNot(t, slices.Concat(one, neg))
	row := slices.Concat(one, slices.Repeat([]api.Tok{{Kind: api.Var}, {Kind: api.And}}, 50))
	checkMayNot(t, row)
	checkTooLong(t, row[:99])
	checkMayNot(t, row[:100])
	checkText(t, row[:45], strings.Repeat("(", 22)+"123"+strings.Repeat(" and a)", 22)) // 179
	checkTooLong(t, row[:51])                                                           // 203
	wide := slices.Repeat([]api.Tok{{Kind: api.Num, N: greatest}}, 50)
	checkTooLong(t, slices.Concat(wide, slices.Repeat([]api.Tok{{Kind: api.Eq}}, 49)))
	checkMayNot(t, wide)
}

// checkTooLong is P3.2's ErrLarge, of one that may be: the Code itself, and no
// text (R3).
func checkTooLong(t *testing.T, p []api.Tok) {
	t.Helper()
	if !parse.May(p) {
		t.Errorf("May of %d tokens is false", len(p))
	}
	if s, err := parse.Text(p); s != "" || err != error(api.ErrLarge) {
		t.Errorf("Text of %d tokens = %q, %v, want no text, and ErrLarge itself", len(p), s, err)
	}
}

// P3.3: what is handed in stays as it is, behind its end, too; nothing is kept.

func TestWhatIsHandedInStays(t *testing.T) {
	for _, p := range [][]api.Tok{
		postfix(t, "a 1 + 2 < not neg"),
		{{Kind: api.Var, N: 3}, {Kind: api.Neg, At: 2}, {Kind: api.Open, N: 5, At: -1}, {Kind: 77}, {}, {}},
	} {
		before := slices.Clone(p)
		firstMay := parse.May(p[:5])
		first, noFirst := parse.Text(p[:5])
		second, noSecond := parse.Text(p[:5])
		if !slices.Equal(p, before) || first != second || noFirst != noSecond || firstMay != parse.May(p[:5]) {
			t.Errorf("%v became %v; %q, %v and then %q, %v", before, p, first, noFirst, second, noSecond)
		}
	}
}

func TestWhatIsToldIsNew(t *testing.T) {
	const s, want = "a + 1 < 2", "a 1 + 2 <"
	first, _ := parse.Parse(s)
	second, _ := parse.Parse(s)
	for i := range first {
		first[i] = api.Tok{Kind: api.Close, N: 9, At: 9}
	}
	first = append(first[:1], api.Tok{Kind: api.Open})
	if !slices.Equal(second, postfix(t, want)) {
		t.Errorf("the second list became %v", second)
	}
	checkParse(t, s, want)
	if first[1].Kind != api.Open {
		t.Error("the first list changed")
	}
}

func TestErrorsToldAreNew(t *testing.T) {
	for s, at := range map[string]int{"a a": 2, "a +": 3, "a ?": 2} {
		_, first := parse.Parse(s)
		first.(*api.Spot).At = 77
		checkNoForm(t, s, at)
	}
}

// checkRoundTrip is P3.4: what Text tells of a postfix parses as it.
func checkRoundTrip(t *testing.T, p []api.Tok) {
	t.Helper()
	s, err := parse.Text(p)
	if err == error(api.ErrLarge) {
		return
	}
	if err != nil || len(s) > api.MaxText {
		t.Errorf("Text(%v): %d bytes, %v", p, len(s), err)
		return
	}
	if got, err := parse.Parse(s); err != nil || !slices.Equal(got, p) {
		t.Errorf("Parse(%q) = %v, %v, want %v", s, got, err, p)
	}
}

// checkBracketsChangeNothing is P3.4, too.
func checkBracketsChangeNothing(t *testing.T, s string) {
	t.Helper()
	if len(s) > api.MaxText-2 {
		return
	}
	p, err := parse.Parse(s)
	bare, noBare := parse.Parse("(" + s + ")")
	if err != nil || noBare != nil || !slices.Equal(p, bare) {
		t.Errorf("Parse(%q) = %v, %v, in brackets %v, %v", s, p, err, bare, noBare)
	}
}

// P3.4: all short postfixes, and longer ones by a fixed rule.

func TestWhatTextTellsParsesAsIt(t *testing.T) {
	all := postfix(t, "0 "+greatestText+" a z true false + - * / % < <= == != and or not neg")
	var grow func(p []api.Tok, left int)
	grow = func(p []api.Tok, left int) {
		if parse.May(p) {
			checkRoundTrip(t, p)
		}
		for i := 0; i < len(all) && left > 0; i++ {
			grow(append(p[:len(p):len(p)], all[i]), left-1)
		}
	}
	grow(nil, 4)
	for seed := range uint32(2000) {
		p := madeBy(all, seed)
		if !parse.May(p) {
			t.Fatalf("May(%v) is false", p)
		}
		checkRoundTrip(t, p)
	}
}

// madeBy is a postfix of some tokens, by a fixed rule.
func madeBy(all []api.Tok, seed uint32) []api.Tok {
	var p []api.Tok
	x, left := seed*2654435761+1, 0
	for size := int(seed % 48); size > 0 || left != 1; size-- {
		x = x*1664525 + 1013904223
		one := all[int(x>>16)%len(all)]
		n := needs(one)
		if size <= 0 {
			one, n = api.Tok{Kind: api.Add}, 2
		}
		if left < n {
			one, n = api.Tok{Kind: api.Var, N: int64(x>>16) % 26}, 0
		}
		p = append(p, one)
		left += 1 - n
	}
	return p
}

// needs is how many a token takes.
func needs(one api.Tok) int {
	switch one.Kind {
	case api.Num, api.Var, api.True, api.False:
		return 0
	case api.Not, api.Neg:
		return 1
	}
	return 2
}

// P1: no call panics, whatever bytes and tokens it is given.

func FuzzParse(f *testing.F) {
	for _, s := range []string{"", "a+1<2", "not (b <= 12)", "a<b<c", "((", "--a", "99999999999999999999", "\xff"} {
		f.Add(s)
	}
	f.Fuzz(func(t *testing.T, s string) {
		p, err := parse.Parse(s)
		if err != nil {
			if len(p) != 0 {
				t.Errorf("Parse(%q) = %v, %v", s, p, err)
			}
			return
		}
		if !parse.May(p) {
			t.Errorf("Parse(%q) = %v, which may not be", s, p)
		}
		checkRoundTrip(t, p)
		checkBracketsChangeNothing(t, s)
	})
}

func FuzzText(f *testing.F) {
	f.Add([]byte{1, 2, 3}, int64(0), 0)
	f.Add([]byte{1, 19, 14}, int64(0), 1)
	f.Add([]byte{2, 17}, int64(26), 0)
	f.Fuzz(func(t *testing.T, kinds []byte, n int64, at int) {
		var p []api.Tok
		for _, k := range kinds {
			p = append(p, api.Tok{Kind: int(k)})
		}
		if len(p) > 0 {
			p[len(p)-1].N, p[len(p)-1].At = n, at
		}
		if parse.May(p) {
			checkRoundTrip(t, p)
			return
		}
		checkMayNot(t, p)
	})
}
