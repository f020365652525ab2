package lex_test

import (
	"math/rand"
	"regexp"
	"slices"
	"strconv"
	"strings"
	"testing"

	"gossamer/api"
	"gossamer/lex"
)

const (
	name16  = "abcdefghijklmnop"
	con16   = "ABCDEFGHIJKLMNOP"
	digit18 = "123456789012345678"
)

var (
	allSigns = []string{"->", "==", "\\", ".", "(", ")", "=", "{", "}", "|", "+", "-", "*", "/", "<"}
	allWords = []string{"let", "letrec", "in", "case", "of"}
)

func name(s string, at int) api.Token { return api.Token{Kind: 1, Text: s, At: at} }
func con(s string, at int) api.Token  { return api.Token{Kind: 2, Text: s, At: at} }
func word(s string, at int) api.Token { return api.Token{Kind: 4, Text: s, At: at} }
func sign(s string, at int) api.Token { return api.Token{Kind: 5, Text: s, At: at} }
func number(s string, n, at int) api.Token {
	return api.Token{Kind: 3, Text: s, N: n, At: at}
}

func checkTokens(t *testing.T, s string, want ...api.Token) {
	t.Helper()
	l, at, e := lex.All(s)
	if e != api.OK || at != 0 || !slices.Equal(l, want) {
		t.Errorf("All(%.60q): %v, %d, %d; want %v, 0, 0", s, l, at, e, want)
	}
}

func checkError(t *testing.T, s string, wantAt int, want api.Errno) {
	t.Helper()
	l, at, e := lex.All(s)
	if len(l) != 0 || at != wantAt || e != want {
		t.Errorf("All(%.60q): %d tokens, %d, %d; want none, %d, %d", s, len(l), at, e, wantAt, want)
	}
}

// P1.1, ordinary texts.

func TestOrdinaryTexts(t *testing.T) {
	checkTokens(t, `\x.x`, sign("\\", 0), name("x", 1), sign(".", 2), name("x", 3))
	checkTokens(t, "let x = 2 * 3 in Cons x x",
		word("let", 0), name("x", 4), sign("=", 6), number("2", 2, 8), sign("*", 10), number("3", 3, 12),
		word("in", 14), con("Cons", 17), name("x", 22), name("x", 24))
	checkTokens(t, "case l of{Nil->0|Cons h t->h+1}",
		word("case", 0), name("l", 5), word("of", 7), sign("{", 9), con("Nil", 10), sign("->", 13), number("0", 0, 15),
		sign("|", 16), con("Cons", 17), name("h", 22), name("t", 24), sign("->", 25), name("h", 27), sign("+", 28),
		number("1", 1, 29), sign("}", 30))
	checkTokens(t, "letrec f=\\n.f (n-1) in f 40",
		word("letrec", 0), name("f", 7), sign("=", 8), sign("\\", 9), name("n", 10), sign(".", 11), name("f", 12),
		sign("(", 14), name("n", 15), sign("-", 16), number("1", 1, 17), sign(")", 18), word("in", 20), name("f", 23),
		number("40", 40, 25))
}

func TestLettersAndDigitsThatFollowAreOneToken(t *testing.T) {
	checkTokens(t, "xY9z0", name("xY9z0", 0))
	checkTokens(t, "Xy9Z0", con("Xy9Z0", 0))
	checkTokens(t, "x1 2", name("x1", 0), number("2", 2, 3))
	checkTokens(t, "azAZ09", name("azAZ09", 0))
	checkTokens(t, "a", name("a", 0))
	checkTokens(t, "z", name("z", 0))
	checkTokens(t, "A", con("A", 0))
	checkTokens(t, "Z", con("Z", 0))
	checkTokens(t, "x+1", name("x", 0), sign("+", 1), number("1", 1, 2))
}

func TestWordsAreNoNames(t *testing.T) {
	for _, w := range allWords {
		checkTokens(t, w, word(w, 0))
		checkTokens(t, w+" "+w, word(w, 0), word(w, len(w)+1))
		checkTokens(t, w+"("+w, word(w, 0), sign("(", len(w)), word(w, len(w)+1))
	}
	for _, s := range []string{"lets", "le", "letrecs", "letre", "inn", "i", "cases", "off", "o", "ofin", "caseof", "let1", "in0", "lET", "oF", "xlet"} {
		checkTokens(t, s, name(s, 0))
	}
	for _, s := range []string{"Let", "LET", "Letrec", "In", "Case", "Of"} {
		checkTokens(t, s, con(s, 0))
	}
}

func TestSigns(t *testing.T) {
	for _, s := range allSigns {
		checkTokens(t, s, sign(s, 0))
		checkTokens(t, " "+s+" ", sign(s, 1))
		checkTokens(t, "x"+s+"1", name("x", 0), sign(s, 1), number("1", 1, 1+len(s)))
	}
	checkTokens(t, `\.(){}|+*/<`, sign("\\", 0), sign(".", 1), sign("(", 2), sign(")", 3), sign("{", 4), sign("}", 5),
		sign("|", 6), sign("+", 7), sign("*", 8), sign("/", 9), sign("<", 10))
}

func TestSignsOfTwoBytesFirst(t *testing.T) {
	checkTokens(t, "===", sign("==", 0), sign("=", 2))
	checkTokens(t, "====", sign("==", 0), sign("==", 2))
	checkTokens(t, "= =", sign("=", 0), sign("=", 2))
	checkTokens(t, "= ==", sign("=", 0), sign("==", 2))
	checkTokens(t, "-->", sign("-", 0), sign("->", 1))
	checkTokens(t, "->->-", sign("->", 0), sign("->", 2), sign("-", 4))
	checkTokens(t, "--", sign("-", 0), sign("-", 1))
	checkTokens(t, "<==", sign("<", 0), sign("==", 1))
	checkTokens(t, "<=", sign("<", 0), sign("=", 1))
	checkTokens(t, "->=", sign("->", 0), sign("=", 2))
	checkTokens(t, "=-", sign("=", 0), sign("-", 1))
	checkTokens(t, "x->y", name("x", 0), sign("->", 1), name("y", 3))
	checkTokens(t, "1==2", number("1", 1, 0), sign("==", 1), number("2", 2, 3))
	checkError(t, "- >", 2, api.ErrChar)
	checkError(t, "->>", 2, api.ErrChar)
	checkError(t, "=>", 1, api.ErrChar)
	checkError(t, ">", 0, api.ErrChar)
}

// P1.1, edges.

func TestEmptyTextsAndBlanks(t *testing.T) {
	for _, s := range []string{"", " ", "\n", "\t", " \t\n\n\t ", strings.Repeat(" ", 100000)} {
		checkTokens(t, s)
	}
	for _, b := range []string{" ", "\n", "\t", " \n\t", "\t\t\t", "\n \n"} {
		n := len(b)
		checkTokens(t, b+"x", name("x", n))
		checkTokens(t, "x"+b, name("x", 0))
		checkTokens(t, b+"x"+b+"y"+b, name("x", n), name("y", 2*n+1))
		checkTokens(t, "("+b+"1"+b+"->"+b+"Ab"+b+"in", sign("(", 0), number("1", 1, n+1), sign("->", 2*n+2), con("Ab", 3*n+4), word("in", 4*n+6))
	}
}

func TestLongestNames(t *testing.T) {
	for _, s := range []string{name16, "a234567890123456", "aBCDEFGHIJKLMNOP", "letrecletrecletr"} {
		checkTokens(t, s, name(s, 0))
		checkTokens(t, "("+s+")", sign("(", 0), name(s, 1), sign(")", 17))
		checkError(t, s+"q", 0, api.ErrLong)
		checkError(t, s+"Q", 0, api.ErrLong)
		checkError(t, s+"0", 0, api.ErrLong)
		checkError(t, "x ("+s+"0)", 3, api.ErrLong)
	}
	for _, s := range []string{con16, "A234567890123456", "Abcdefghijklmnop"} {
		checkTokens(t, s, con(s, 0))
		checkError(t, s+"q", 0, api.ErrLong)
		checkError(t, s+"0", 0, api.ErrLong)
	}
	checkTokens(t, name16+" q", name(name16, 0), name("q", 17))
	checkError(t, strings.Repeat("a", 100000), 0, api.ErrLong)
	checkError(t, "1 "+strings.Repeat("A1", 50000), 2, api.ErrLong)
}

func TestNumbers(t *testing.T) {
	checkTokens(t, "0", number("0", 0, 0))
	checkTokens(t, "7", number("7", 7, 0))
	checkTokens(t, "10", number("10", 10, 0))
	checkTokens(t, "100200", number("100200", 100200, 0))
	checkTokens(t, "9876543210", number("9876543210", 9876543210, 0))
	checkTokens(t, digit18, number(digit18, 123456789012345678, 0))
	checkTokens(t, "100000000000000000", number("100000000000000000", 100000000000000000, 0))
	checkTokens(t, "999999999999999999", number("999999999999999999", 999999999999999999, 0))
	checkTokens(t, "0 0", number("0", 0, 0), number("0", 0, 2))
	checkTokens(t, "-1", sign("-", 0), number("1", 1, 1))
	checkTokens(t, "0.5", number("0", 0, 0), sign(".", 1), number("5", 5, 2))
}

func TestNumbersThatAreTooLong(t *testing.T) {
	for _, s := range []string{"1234567890123456789", "1000000000000000000", "9999999999999999999", "18446744073709551616", strings.Repeat("9", 100000)} {
		checkError(t, s, 0, api.ErrLong)
		checkError(t, " x "+s+" x", 3, api.ErrLong)
	}
}

func TestNumbersWithAZeroAhead(t *testing.T) {
	for _, s := range []string{"00", "01", "000", "007", "0123", "012345678901234567", "0123456789012345678", strings.Repeat("0", 30)} {
		checkError(t, s, 0, api.ErrLong)
		checkError(t, "x+"+s, 2, api.ErrLong)
	}
}

func TestDigitsWithLettersBehindThem(t *testing.T) {
	for _, s := range []string{"1a", "0a", "1A", "01a", "00Z", "12ab34", "9let", "1x1", digit18 + "a", digit18 + "9a", "1" + strings.Repeat("a", 100), strings.Repeat("1", 100) + "a", "0" + name16} {
		checkError(t, s, 0, api.ErrChar)
		checkError(t, "f "+s+" 2", 2, api.ErrChar)
	}
}

// P1.1, wrong texts.

func TestEachByte(t *testing.T) {
	for c := range 256 {
		b := string([]byte{byte(c)})
		switch {
		case strings.Contains(" \n\t", b):
			checkTokens(t, b)
			checkTokens(t, "x"+b+"y", name("x", 0), name("y", 2))
		case strings.Contains("abcdefghijklmnopqrstuvwxyz", b):
			checkTokens(t, b, name(b, 0))
			checkTokens(t, "x"+b+"y", name("x"+b+"y", 0))
		case strings.Contains("ABCDEFGHIJKLMNOPQRSTUVWXYZ", b):
			checkTokens(t, b, con(b, 0))
			checkTokens(t, "x"+b+"y", name("x"+b+"y", 0))
		case strings.Contains("0123456789", b):
			checkTokens(t, b, number(b, c-'0', 0))
			checkTokens(t, "x"+b+"y", name("x"+b+"y", 0))
		case strings.Contains(`\.()={}|+-*/<`, b):
			checkTokens(t, b, sign(b, 0))
			checkTokens(t, "x"+b+"y", name("x", 0), sign(b, 1), name("y", 2))
		default:
			checkError(t, b, 0, api.ErrChar)
			checkError(t, "x"+b+"y", 1, api.ErrChar)
			checkError(t, " 1 "+b, 3, api.ErrChar)
			checkError(t, "->"+b+" 01", 2, api.ErrChar)
		}
	}
}

func TestRunesBeyondASCII(t *testing.T) {
	// Letters, digits and blanks of other scripts are none here; nor are bytes that are no runes.
	for _, s := range []string{"é", "ß", "Ä", "λ", "я", "ａ", "Ａ", "٣", "１", "ª", "²", "\u00a0", "\u0085", "\u2003", "\u3000", "\ufeff", "\ufffd", "→", "😀", "\xff", "\x80", "\xc3", "\xe2\x82", "\xc3\x28", "\xf0\x9f\x98", "\xed\xa0\x80"} {
		checkError(t, s, 0, api.ErrChar)
		checkError(t, "ab"+s, 2, api.ErrChar)
		checkError(t, "12"+s, 2, api.ErrChar)
		checkError(t, "("+s+"x", 1, api.ErrChar)
		checkError(t, "x \n"+s+s, 3, api.ErrChar)
		checkError(t, name16+s, 16, api.ErrChar)
		checkError(t, name16+"q"+s, 0, api.ErrLong)
		checkError(t, digit18+s, 18, api.ErrChar)
		checkError(t, digit18+"9"+s, 0, api.ErrLong)
	}
}

func TestTheFirstFaultIsTold(t *testing.T) {
	long, many := name16+"q", digit18+"9"
	checkError(t, "? "+long, 0, api.ErrChar)
	checkError(t, long+" ?", 0, api.ErrLong)
	checkError(t, many+" 1a", 0, api.ErrLong)
	checkError(t, "1a "+many, 0, api.ErrChar)
	checkError(t, "x 1a 01", 2, api.ErrChar)
	checkError(t, "x 01 1a", 2, api.ErrLong)
	checkError(t, "x;?", 1, api.ErrChar)
	checkError(t, strings.Repeat("x ", 50000)+"?"+long, 100000, api.ErrChar)
	checkError(t, strings.Repeat("(", 5000)+"a_b", 5001, api.ErrChar)
}

func TestLongTexts(t *testing.T) {
	l, at, e := lex.All(strings.Repeat("let1\t->", 100000))
	if len(l) != 200000 || at != 0 || e != api.OK {
		t.Fatal(len(l), at, e)
	}
	for i := 0; i < len(l); i += 2 {
		if l[i] != name("let1", i/2*7) || l[i+1] != sign("->", i/2*7+5) {
			t.Fatal(i, l[i], l[i+1])
		}
	}
}

// P1.1, held against readings that are made otherwise.

var (
	blanks   = regexp.MustCompile(`^[ \n\t]+`)
	together = regexp.MustCompile(`^[a-zA-Z0-9]+`)
	rightOne = regexp.MustCompile(`^([a-z][a-zA-Z0-9]{0,15}|[A-Z][a-zA-Z0-9]{0,15}|0|[1-9][0-9]{0,17})$`)
	tooLong  = regexp.MustCompile(`^([a-zA-Z][a-zA-Z0-9]*|[0-9]+)$`)
	anySign  = regexp.MustCompile(`^(->|==|[\\.()={}|+*/<-])`)
)

// told is what is to be told of letters and digits that follow one another.
func told(s string, at int) (api.Token, api.Errno) {
	if !rightOne.MatchString(s) {
		if tooLong.MatchString(s) {
			return api.Token{}, api.ErrLong
		}
		return api.Token{}, api.ErrChar
	}
	n, err := strconv.Atoi(s)
	switch {
	case err == nil:
		return number(s, n, at), api.OK
	case slices.Contains(allWords, s):
		return word(s, at), api.OK
	case s[0] >= 'a':
		return name(s, at), api.OK
	}
	return con(s, at), api.OK
}

func checkByPatterns(t *testing.T, s string) {
	t.Helper()
	var l []api.Token
	for at := 0; at < len(s); {
		rest := s[at:]
		if b := blanks.FindString(rest); b != "" {
			at += len(b)
		} else if x := together.FindString(rest); x != "" {
			k, e := told(x, at)
			if e != api.OK {
				checkError(t, s, at, e)
				return
			}
			l = append(l, k)
			at += len(x)
		} else if x := anySign.FindString(rest); x != "" {
			l = append(l, sign(x, at))
			at += len(x)
		} else {
			checkError(t, s, at, api.ErrChar)
			return
		}
	}
	checkTokens(t, s, l...)
}

func TestAllShortTexts(t *testing.T) {
	const few = "iNn01->= (\n?\xc3"
	var grow func(s string)
	grow = func(s string) {
		checkByPatterns(t, s)
		for i := 0; i < len(few) && len(s) < 4; i++ {
			grow(s + few[i:i+1])
		}
	}
	grow("")
}

func TestTextsOfParts(t *testing.T) {
	parts := slices.Concat(allSigns, allWords, []string{" ", "\n", "\t", "  ", "x", "f1", "Cons", "0", "1", "42", name16, con16, digit18, "?", "é", "\xff"})
	r := rand.New(rand.NewSource(1))
	for range 20000 {
		var b strings.Builder
		for range r.Intn(12) {
			b.WriteString(parts[r.Intn(len(parts))])
		}
		checkByPatterns(t, b.String())
	}
}

// P1.2.

func TestText(t *testing.T) {
	for _, c := range []struct {
		l    []api.Token
		want string
	}{
		{nil, ""},
		{[]api.Token{}, ""},
		{[]api.Token{name("x", 0)}, "x"},
		{[]api.Token{name("x", 7), name("y", 3)}, "x y"},
		{[]api.Token{sign("\\", 0), name("x", 1), sign(".", 2), name("x", 3)}, "\\ x . x"},
		{[]api.Token{word("let", 0), sign("->", 3), number("40", 40, 5), con("Nil", 8)}, "let -> 40 Nil"},
		// It is the Texts that are told, whatever they are, and nothing else.
		{[]api.Token{{}}, ""},
		{[]api.Token{{}, {}}, " "},
		{[]api.Token{{}, name("x", 0), {}}, " x "},
		{[]api.Token{{Kind: api.TokInt, Text: "5", N: 7}, {Kind: -3, Text: "a b"}, {Kind: 99, Text: "\xff\n", At: -1}}, "5 a b \xff\n"},
		{[]api.Token{{Kind: api.TokName, Text: " "}, {Text: " x "}}, "   x "},
	} {
		if s := lex.Text(c.l); s != c.want {
			t.Errorf("Text(%v): %q; want %q", c.l, s, c.want)
		}
	}
	if s := lex.Text(make([]api.Token, 100000)); s != strings.Repeat(" ", 99999) {
		t.Error(len(s))
	}
}

func TestTextLeavesItsArgument(t *testing.T) {
	l := []api.Token{name("x", 4), number("7", 7, 6)}
	lex.Text(l)
	if !slices.Equal(l, []api.Token{name("x", 4), number("7", 7, 6)}) {
		t.Error(l)
	}
}

func TestWord(t *testing.T) {
	for _, w := range allWords {
		if !lex.Word(w) {
			t.Errorf("Word(%q): false", w)
		}
		for _, s := range []string{w + "s", w + " ", " " + w, w + "\x00", w[1:], w[:len(w)-1], strings.ToUpper(w), strings.ToUpper(w[:1]) + w[1:], w + w} {
			if lex.Word(s) {
				t.Errorf("Word(%q): true", s)
			}
		}
	}
	for _, s := range []string{"", " ", "x", "Cons", "0", "->", "\\", "else", "rec", "where", "let rec", "let letrec in case of", "\xff", strings.Repeat("let", 100000)} {
		if lex.Word(s) {
			t.Errorf("Word(%.60q): true", s)
		}
	}
}

// P1.3.

func TestWhatWasReadIsReadAgain(t *testing.T) {
	for _, s := range []string{"", " x", `\x.x`, "===->-", "= =", "- -", "let f1=\\x.x->==A9 (40)\n|of", "case x of{A->1|B y->y}", "x\n\t+\n1", "f x 0 0", name16 + "(" + digit18 + ")" + con16} {
		checkReadAgain(t, s)
	}
	r := rand.New(rand.NewSource(2))
	for range 5000 {
		checkReadAgain(t, randomText(r))
	}
}

// checkReadAgain takes texts that are read.
func checkReadAgain(t *testing.T, s string) {
	t.Helper()
	l, _, e := lex.All(s)
	if e != api.OK {
		t.Fatalf("All(%q): %d", s, e)
	}
	// In the text that is written one blank stands between any two, and none else.
	at := 0
	for i := range l {
		l[i].At = at
		at += len(l[i].Text) + 1
	}
	checkTokens(t, lex.Text(l), l...)
}

func randomText(r *rand.Rand) string {
	parts := slices.Concat(allSigns, allWords, []string{"x", "f1", "Cons", "Z9", "0", "1", "42", name16, con16, digit18})
	between := []string{" ", "\n", "\t", " \n ", "\t\t"}
	var b strings.Builder
	for range r.Intn(20) {
		b.WriteString(parts[r.Intn(len(parts))])
		b.WriteString(between[r.Intn(len(between))])
	}
	return b.String()
}

// R3, R4, R5.

func TestNothingIsKept(t *testing.T) {
	const s = "let x = 1 in x"
	want, _, _ := lex.All(s)
	want = slices.Clone(want)
	got, _, _ := lex.All(s)
	for i := range got {
		got[i] = api.Token{Kind: 9, Text: "?", N: 9, At: 9}
	}
	checkError(t, "x ?", 2, api.ErrChar)
	checkTokens(t, s, want...)
	if lex.Text(nil) != lex.Text([]api.Token{}) {
		t.Error("an empty list and a nil one are the same")
	}
}
