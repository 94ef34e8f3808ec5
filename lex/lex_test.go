package lex_test

import (
	"math"
	"regexp"
	"slices"
	"strconv"
	"strings"
	"testing"

	"sizar/api"
	"sizar/lex"
)

const (
	smalls  = "abcdefghijklmnopqrstuvwxyz"
	greats  = "ABCDEFGHIJKLMNOPQRSTUVWXYZ_"
	digits  = "0123456789"
	symbols = "+-*/\\^<>=~:.?@#&$"
	blanks  = " \t\n\r"
)

// The kinds of tokens.
const (
	name     = 1
	quoted   = 2
	variable = 3
	number   = 4
	mark     = 5
	end      = 6
)

// holdCut holds what Cut answers against the tokens that it should.
func holdCut(t *testing.T, s string, want ...lex.Token) {
	t.Helper()
	got, n, e := lex.Cut(s)
	if e != api.OK || n != len(s) || !slices.Equal(got, want) {
		t.Errorf("P6.1: Cut(%.80q): %#v, %d, %d; not %#v", s, got, n, e, want)
	}
}

// holdRefused holds a Cut of what may not be against its error and the byte of it.
func holdRefused(t *testing.T, s string, at int, want api.Errno) {
	t.Helper()
	if got, n, e := lex.Cut(s); e != want || n != at || len(got) != 0 {
		t.Errorf("P6.1: Cut(%.80q): %#v, %d, %d; not %d at %d", s, got, n, e, want, at)
	}
}

// holdQuote holds what Quote and Plain answer against what they should, and reads it anew.
func holdQuote(t *testing.T, s, want string) {
	t.Helper()
	got := lex.Quote(s)
	if got != want {
		t.Errorf("P6.1: Quote(%q): %q, not %q", s, got, want)
	}
	plain := want != "" && want == s
	if lex.Plain(s) != plain {
		t.Errorf("P6.1: Plain(%q): %v", s, !plain)
	}
	if want == "" {
		return
	}
	kind := quoted
	if plain {
		kind = name
	}
	holdCut(t, got, lex.Token{Kind: kind, Text: s})
}

func TestTheExamples(t *testing.T) {
	holdCut(t, "a(X).",
		lex.Token{Kind: name, Text: "a", Open: true},
		lex.Token{Kind: mark, Text: "(", At: 1},
		lex.Token{Kind: variable, Text: "X", At: 2},
		lex.Token{Kind: mark, Text: ")", At: 3},
		lex.Token{Kind: end, At: 4})
	holdQuote(t, "a b", "'a b'")
}

func TestCutOfOneToken(t *testing.T) {
	for _, c := range []struct {
		kind int
		some []string
	}{
		{name, []string{"a", "z", "foo", "aB", "a_", "a9", "zZ_09azAZ", "is", "+", "=", "->", "\\+", "=:=", ":-", symbols, ".+", "..+", ";", "!", "[]", "{}"}},
		{variable, []string{"X", "A", "Z", "_", "__", "_a", "_9", "Xyz", "X_1a", "XY"}},
		{mark, []string{"(", ")", "[", "]", "{", "}", ",", "|"}},
	} {
		for _, s := range c.some {
			holdCut(t, s, lex.Token{Kind: c.kind, Text: s})
			holdCut(t, " "+s+" ", lex.Token{Kind: c.kind, Text: s, At: 1})
		}
	}
	holdCut(t, ".", lex.Token{Kind: end})
}

func TestCutOfNumbers(t *testing.T) {
	for _, c := range []struct {
		s string
		n int64
	}{
		{"0", 0}, {"00", 0}, {"1", 1}, {"9", 9}, {"10", 10}, {"007", 7}, {"0123456789", 123456789}, {"4294967296", 1 << 32},
		{"9223372036854775806", math.MaxInt64 - 1}, {"9223372036854775807", math.MaxInt64}, {"0009223372036854775807", math.MaxInt64},
		{strings.Repeat("0", 4095) + "5", 5}, {strings.Repeat("0", 4096), 0},
	} {
		holdCut(t, c.s, lex.Token{Kind: number, N: c.n})
	}
	for _, s := range []string{
		"9223372036854775808", "9223372036854775809", "9300000000000000000", "10000000000000000000", "18446744073709551615", "18446744073709551616", "18446744073709551617",
		"36893488147419103233", "0009223372036854775808", strings.Repeat("9", 4000),
	} {
		holdRefused(t, s, 0, api.EOVER)
		holdRefused(t, "a -"+s+". b", 3, api.EOVER)
	}
	holdCut(t, "-1", lex.Token{Kind: name, Text: "-"}, lex.Token{Kind: number, N: 1, At: 1})
	holdCut(t, "1_0", lex.Token{Kind: number, N: 1}, lex.Token{Kind: variable, Text: "_0", At: 1})
	holdCut(t, "0x1", lex.Token{Kind: number}, lex.Token{Kind: name, Text: "x1", At: 1})
	holdCut(t, "1e5", lex.Token{Kind: number, N: 1}, lex.Token{Kind: name, Text: "e5", At: 1})
	holdCut(t, "1.5", lex.Token{Kind: number, N: 1}, lex.Token{Kind: name, Text: ".", At: 1}, lex.Token{Kind: number, N: 5, At: 2})
	holdCut(t, "1.", lex.Token{Kind: number, N: 1}, lex.Token{Kind: end, At: 1})
}

// byteKind tells the kind of the token that a byte alone is: 0 of a blank, -1 of what is refused.
func byteKind(c byte) int {
	one := string([]byte{c})
	switch {
	case strings.Contains(blanks+"%", one):
		return 0
	case one == ".":
		return end
	case strings.Contains(smalls+symbols+";!", one):
		return name
	case strings.Contains(greats, one):
		return variable
	case strings.Contains(digits, one):
		return number
	case strings.Contains("()[]{},|", one):
		return mark
	}
	return -1
}

func TestCutByEachByte(t *testing.T) {
	for c := range 256 {
		s := string([]byte{byte(c)})
		switch kind := byteKind(byte(c)); kind {
		case -1:
			holdRefused(t, s, 0, api.EFORM)
			holdRefused(t, "ab "+s, 3, api.EFORM)
			holdRefused(t, "ab"+s, 2, api.EFORM)
			holdRefused(t, s+"(", 0, api.EFORM)
		case 0:
			holdCut(t, s)
			holdCut(t, "a"+s, lex.Token{Kind: name, Text: "a"})
		case number:
			holdCut(t, s, lex.Token{Kind: number, N: int64(c - '0')})
		case end:
			holdCut(t, s, lex.Token{Kind: end})
		default:
			holdCut(t, s, lex.Token{Kind: kind, Text: s})
		}
	}
}

func TestCutByEachByteBehindALetterAndASymbol(t *testing.T) {
	for c := range 256 {
		s := string([]byte{byte(c)})
		for _, ahead := range []struct {
			s, with string
			kind    int
		}{{"a", smalls + greats + digits, name}, {"X", smalls + greats + digits, variable}, {"_", smalls + greats + digits, variable}, {"+", strings.Replace(symbols, ".", "", 1), name}, {".", strings.Replace(symbols, ".", "", 1), name}} {
			got, _, e := lex.Cut(ahead.s + s)
			one := e == api.OK && len(got) == 1 && got[0] == lex.Token{Kind: ahead.kind, Text: ahead.s + s}
			if want := strings.Contains(ahead.with, s); one != want {
				t.Errorf("P6.1: Cut(%q): %#v, %d", ahead.s+s, got, e)
			}
		}
	}
}

func TestCutOfWhatParts(t *testing.T) {
	for _, s := range []string{"", " ", "\t", "\n", "\r", " \t\r\n ", "%", "% a", "%\n", " % a ' \x00 \xff \n\r\n", "%%\n%", "%a\n%b\n", strings.Repeat(" ", 4096), "%" + strings.Repeat("'", 4095)} {
		holdCut(t, s)
	}
	holdCut(t, "% a\nb", lex.Token{Kind: name, Text: "b", At: 4})
	holdCut(t, "a%b\nc", lex.Token{Kind: name, Text: "a"}, lex.Token{Kind: name, Text: "c", At: 4})
	holdCut(t, "a%b\rc\td", lex.Token{Kind: name, Text: "a"})
	holdCut(t, "+%+\n+", lex.Token{Kind: name, Text: "+"}, lex.Token{Kind: name, Text: "+", At: 4})
	holdCut(t, "'%'%", lex.Token{Kind: quoted, Text: "%"})
	for i := range len(blanks) {
		holdCut(t, "a"+blanks[i:i+1]+"b", lex.Token{Kind: name, Text: "a"}, lex.Token{Kind: name, Text: "b", At: 2})
	}
	for _, s := range []string{"\f", "\v", "\x00", "\u00a0", "\u2028"} {
		holdRefused(t, "a"+s+"b", 1, api.EFORM)
	}
}

func TestCutOfTheEnd(t *testing.T) {
	a := lex.Token{Kind: name, Text: "a"}
	for _, behind := range []string{"", " ", "\t", "\n", "\r", "%", "%b.", " % ."} {
		holdCut(t, "a."+behind, a, lex.Token{Kind: end, At: 1})
		holdCut(t, "X=."+behind, lex.Token{Kind: variable, Text: "X"}, lex.Token{Kind: name, Text: "=", At: 1}, lex.Token{Kind: end, At: 2})
		holdCut(t, "..."+behind, lex.Token{Kind: name, Text: ".."}, lex.Token{Kind: end, At: 2})
		holdCut(t, "'a'."+behind, lex.Token{Kind: quoted, Text: "a"}, lex.Token{Kind: end, At: 3})
	}
	point := lex.Token{Kind: name, Text: ".", At: 1}
	holdCut(t, "a.b", a, point, lex.Token{Kind: name, Text: "b", At: 2})
	holdCut(t, "a.B", a, point, lex.Token{Kind: variable, Text: "B", At: 2})
	holdCut(t, "a.'b'", a, point, lex.Token{Kind: quoted, Text: "b", At: 2})
	holdCut(t, "a.)", a, point, lex.Token{Kind: mark, Text: ")", At: 2})
	holdCut(t, "a.[]", a, point, lex.Token{Kind: name, Text: "[]", At: 2})
	point.Open = true
	holdCut(t, "a.(", a, point, lex.Token{Kind: mark, Text: "(", At: 2})
	holdCut(t, "=..", lex.Token{Kind: name, Text: "=."}, lex.Token{Kind: end, At: 2})
	holdCut(t, "=..a", lex.Token{Kind: name, Text: "=.."}, lex.Token{Kind: name, Text: "a", At: 3})
	holdCut(t, ". .", lex.Token{Kind: end}, lex.Token{Kind: end, At: 2})
	for _, behind := range []string{"\x00", "\f", "\x80", "\"", "`"} {
		holdRefused(t, "a."+behind, 2, api.EFORM)
	}
}

func TestCutOfSolosAndBrackets(t *testing.T) {
	holdCut(t, ";!;;", lex.Token{Kind: name, Text: ";"}, lex.Token{Kind: name, Text: "!", At: 1}, lex.Token{Kind: name, Text: ";", At: 2}, lex.Token{Kind: name, Text: ";", At: 3})
	holdCut(t, ";+", lex.Token{Kind: name, Text: ";"}, lex.Token{Kind: name, Text: "+", At: 1})
	holdCut(t, "+;", lex.Token{Kind: name, Text: "+"}, lex.Token{Kind: name, Text: ";", At: 1})
	for _, b := range []string{"[]", "{}"} {
		open, shut := b[:1], b[1:]
		holdCut(t, b+b, lex.Token{Kind: name, Text: b}, lex.Token{Kind: name, Text: b, At: 2})
		holdCut(t, open+b+shut, lex.Token{Kind: mark, Text: open}, lex.Token{Kind: name, Text: b, At: 1}, lex.Token{Kind: mark, Text: shut, At: 3})
		holdCut(t, open+" "+shut, lex.Token{Kind: mark, Text: open}, lex.Token{Kind: mark, Text: shut, At: 2})
		holdCut(t, open+"%\n"+shut, lex.Token{Kind: mark, Text: open}, lex.Token{Kind: mark, Text: shut, At: 3})
		holdCut(t, shut+open, lex.Token{Kind: mark, Text: shut}, lex.Token{Kind: mark, Text: open, At: 1})
		holdCut(t, b+"a", lex.Token{Kind: name, Text: b}, lex.Token{Kind: name, Text: "a", At: 2})
	}
	holdCut(t, "[}", lex.Token{Kind: mark, Text: "["}, lex.Token{Kind: mark, Text: "}", At: 1})
	holdCut(t, "{]", lex.Token{Kind: mark, Text: "{"}, lex.Token{Kind: mark, Text: "]", At: 1})
	holdCut(t, "()", lex.Token{Kind: mark, Text: "("}, lex.Token{Kind: mark, Text: ")", At: 1})
}

func TestCutTellsWhatIsOpen(t *testing.T) {
	for _, c := range []struct {
		s    string
		kind int
		text string
		n    int64
	}{
		{"a", name, "a", 0}, {"+", name, "+", 0}, {"..+", name, "..+", 0}, {";", name, ";", 0}, {"[]", name, "[]", 0}, {"'a b'", quoted, "a b", 0}, {"''", quoted, "", 0},
		{"X", variable, "X", 0}, {"_", variable, "_", 0}, {"12", number, "", 12}, {"(", mark, "(", 0}, {")", mark, ")", 0}, {",", mark, ",", 0}, {"|", mark, "|", 0},
	} {
		one := lex.Token{Kind: c.kind, Text: c.text, N: c.n}
		bracket := lex.Token{Kind: mark, Text: "(", At: len(c.s) + 1}
		holdCut(t, c.s+" (", one, bracket)
		holdCut(t, c.s+"\n(", one, bracket)
		one.Open = true
		bracket.At--
		holdCut(t, c.s+"(", one, bracket)
	}
	holdCut(t, ". (", lex.Token{Kind: end}, lex.Token{Kind: mark, Text: "(", At: 2})
	holdCut(t, "a%(\n(", lex.Token{Kind: name, Text: "a"}, lex.Token{Kind: mark, Text: "(", At: 4})
	holdCut(t, "'('", lex.Token{Kind: quoted, Text: "("})
}

func TestCutOfQuotedNames(t *testing.T) {
	for _, c := range []struct{ s, text string }{
		{"''", ""}, {"'a'", "a"}, {"'A b'", "A b"}, {"''''", "'"}, {"''''''", "''"}, {"'it''s'", "it's"}, {"'''a'", "'a"}, {"'a'''", "a'"},
		{"'\\n'", "\n"}, {"'\\t'", "\t"}, {"'\\\\'", "\\"}, {"'\\''", "'"}, {"'\\\\n'", "\\n"}, {"'\\'n'", "'n"}, {"'\\''''", "''"}, {"'\\\\'''", "\\'"}, {"'a\\n\\t\\\\\\'b'", "a\n\t\\'b"},
		{"' '", " "}, {"'~'", "~"}, {"'% a'", "% a"}, {"'.'", "."}, {"'a.'", "a."}, {"'[]'", "[]"}, {"'12'", "12"}, {"'\"`'", "\"`"},
	} {
		holdCut(t, c.s, lex.Token{Kind: quoted, Text: c.text})
		holdCut(t, "\n"+c.s+"b", lex.Token{Kind: quoted, Text: c.text, At: 1}, lex.Token{Kind: name, Text: "b", At: 1 + len(c.s)})
	}
	for _, s := range []string{"'", "'a", "'''", "'a''", "'a\\'", "'\\\\''", "'\\", "'a\\", "'\\x'", "'\\N'", "'\\r'", "'\\0'", "'\\\"'", "'\\ '", "'\\\n'", "'a\nb'", "'a\tb'", "'\r'", "'\xc3\xa9'"} {
		for _, ahead := range []string{"", "  ", "a. ", "'b' "} {
			holdRefused(t, ahead+s, len(ahead), api.EFORM)
		}
	}
}

func TestCutByEachByteWithinQuotes(t *testing.T) {
	for c := range 256 {
		s := string([]byte{byte(c)})
		switch {
		case s == "'":
			holdRefused(t, "+'a'b'", 5, api.EFORM)
		case s == "\\" || c < 32 || c > 126:
			holdRefused(t, "+'a"+s+"b'", 1, api.EFORM)
		default:
			holdCut(t, "+'a"+s+"b'", lex.Token{Kind: name, Text: "+"}, lex.Token{Kind: quoted, Text: "a" + s + "b", At: 1})
		}
		if !strings.Contains("nt\\'", s) {
			holdRefused(t, "+'\\"+s+"'", 1, api.EFORM)
		}
	}
}

func TestCutOfLongTokens(t *testing.T) {
	for _, one := range []string{"a", "+", "aZ", "=.:\\"} {
		most := strings.Repeat(one, api.MaxAtom/len(one))
		holdCut(t, most, lex.Token{Kind: name, Text: most})
		for _, more := range []string{one[:1], most, strings.Repeat(one[:1], 3000)} {
			holdRefused(t, most+more, 0, api.EOVER)
			holdRefused(t, "X, "+most+more+" \x00", 3, api.EOVER)
		}
	}
	for _, c := range []struct{ s, text string }{{"a", "a"}, {"''", "'"}, {"\\n", "\n"}, {"\\'", "'"}, {" ", " "}} {
		most, text := strings.Repeat(c.s, api.MaxAtom), strings.Repeat(c.text, api.MaxAtom)
		holdCut(t, "'"+most+"'", lex.Token{Kind: quoted, Text: text})
		holdRefused(t, "'"+most+c.s+"'", 0, api.EOVER)
		holdRefused(t, "b('"+most+c.s+"')", 2, api.EOVER)
		holdRefused(t, "'"+strings.Repeat(c.s, 2000)+"'", 0, api.EOVER)

		// Of a quoted name the form is named ahead of the length.
		holdRefused(t, "'"+most+c.s, 0, api.EFORM)
		holdRefused(t, "'"+most+c.s+"\\x'", 0, api.EFORM)
		holdRefused(t, "'"+most+c.s+"\n'", 0, api.EFORM)
	}
	holdCut(t, strings.Repeat("+", 64)+".", lex.Token{Kind: name, Text: strings.Repeat("+", 64)}, lex.Token{Kind: end, At: 64})
	holdRefused(t, strings.Repeat("+", 64)+".+", 0, api.EOVER)
	for _, s := range []string{strings.Repeat("X", 65), strings.Repeat("X", 4096), "_" + strings.Repeat("a", 4095)} {
		holdCut(t, s, lex.Token{Kind: variable, Text: s})
	}
}

func TestCutOfLongTexts(t *testing.T) {
	for _, c := range []byte("X %'.\x00") {
		s := strings.Repeat(string([]byte{c}), 4097)
		holdRefused(t, s, 4096, api.EOVER)
		holdRefused(t, "\x00"+s, 4096, api.EOVER)
		holdRefused(t, strings.Repeat(s, 16), 4096, api.EOVER)
	}
	s := "X" + strings.Repeat(" ", 4094) + "."
	holdCut(t, s, lex.Token{Kind: variable, Text: "X"}, lex.Token{Kind: end, At: 4095})
	holdRefused(t, strings.Repeat(" ", 4095)+"\"", 4095, api.EFORM)
}

func TestCutOfManyTokens(t *testing.T) {
	var want []lex.Token
	for i := range api.MaxTokens {
		want = append(want, lex.Token{Kind: mark, Text: ")", At: 2 * i})
	}
	most := strings.Repeat(") ", api.MaxTokens)
	holdCut(t, most, want...)
	holdCut(t, most+"% a", want...)
	for _, more := range []string{"a", "X", "1", "(", ".", "''", "[]", "+", ";", "a \x00", "a 'b", "1 9223372036854775808", ". . ."} {
		holdRefused(t, most+more, 2048, api.EOVER)
		holdRefused(t, most+" \n% b\n"+more, 2054, api.EOVER)
	}
	for _, wrong := range []string{"\x00", "\"", "'a", "'\\x'", "\xff a"} {
		holdRefused(t, most+wrong, 2048, api.EFORM)
		holdRefused(t, most+"a "+wrong, 2048, api.EOVER)
		holdRefused(t, most[2:]+"a "+wrong, 2048, api.EFORM)
	}
	holdRefused(t, most+"9223372036854775808", 2048, api.EOVER)
	holdRefused(t, strings.Repeat(".\n", 1025), 2048, api.EOVER)
}

func TestCutTellsTheFirstThatIsWrong(t *testing.T) {
	long := strings.Repeat("a", 65)
	for _, c := range []struct {
		s  string
		at int
		e  api.Errno
	}{
		{"a \" 9223372036854775808", 2, api.EFORM}, {"a 9223372036854775808 \"", 2, api.EOVER}, {long + " '", 0, api.EOVER}, {"' " + long, 0, api.EFORM},
		{"a. b. \x01 \x02", 6, api.EFORM}, {"\xff'", 0, api.EFORM}, {"'a' 'b' 'c", 8, api.EFORM}, {"% \x00\n\x00", 4, api.EFORM},
	} {
		holdRefused(t, c.s, c.at, c.e)
	}
}

func TestQuote(t *testing.T) {
	for _, s := range []string{"a", "aB_9", "z", "foo", "+", "-", "\\", "\\+", "=:=", ".+", "..+", "->", ";", "!", "[]", "{}", "mod", strings.Repeat("a", 64), strings.Repeat("+", 64)} {
		holdQuote(t, s, s)
	}
	for _, s := range []string{
		"", "A", "Ab", "_", "_a", "1", "12", "1a", "a b", " a", "a ", " ", "a.", ".", "..", "=..", "+.", "a+", "+a", "(", ")", "[", "]", "{", "}", ",", "|", "[ ]", "[a]", "[]]", "{}{}",
		"%", "a%", "+%", "%a", ";;", "!!", "!;", "a;", "\"", "`", "~a", "a,b", "a(", strings.Repeat("A", 64), strings.Repeat("a", 63) + " ",
	} {
		holdQuote(t, s, "'"+s+"'")
	}
	for _, c := range []struct{ s, want string }{
		{"'", "'\\''"}, {"it's", "'it\\'s'"}, {"''", "'\\'\\''"}, {"a\\", "'a\\\\'"}, {"\\n", "'\\\\n'"}, {"\\'", "'\\\\\\''"}, {"\n", "'\\n'"}, {"\t", "'\\t'"}, {"a\n", "'a\\n'"}, {"\ta", "'\\ta'"},
		{"+\n", "'+\\n'"}, {"%\n", "'%\\n'"}, {"% a\nb", "'% a\\nb'"}, {strings.Repeat("\n", 64), "'" + strings.Repeat("\\n", 64) + "'"}, {strings.Repeat("\\", 64), strings.Repeat("\\", 64)},
	} {
		holdQuote(t, c.s, c.want)
	}
	for _, s := range []string{"\r", "a\r", "\x00", "a\x00", "\x1f", "\x7f", "\x80", "\xff", "é", "a\nb\x01", strings.Repeat("a", 65), strings.Repeat(" ", 65), strings.Repeat("+", 5000), strings.Repeat("\x00", 64)} {
		holdQuote(t, s, "")
	}
}

func TestQuoteByEachByte(t *testing.T) {
	for c := range 256 {
		s := string([]byte{byte(c)})
		within := "a'" + s
		want := "'a\\'" + s + "'"
		switch {
		case c == '\n':
			want = "'a\\'\\n'"
		case c == '\t':
			want = "'a\\'\\t'"
		case s == "'" || s == "\\":
			want = "'a\\'\\" + s + "'"
		case c < 32 || c > 126:
			want = ""
		}
		holdQuote(t, within, want)
		if lex.Plain(s) != (byteKind(byte(c)) == name) {
			t.Errorf("P6.1: Plain of the byte %d", c)
		}
	}
}

// slow cuts as the chapter does, but by patterns.
type slow struct {
	blank, name, variable, number, quoted, symbols *regexp.Regexp
}

func newSlow() slow {
	return slow{
		blank:    regexp.MustCompile(`^(?:[ \t\n\r]|%[^\n]*)+`),
		name:     regexp.MustCompile(`^(?:[a-z][a-zA-Z0-9_]*|[;!]|\[\]|\{\})`),
		variable: regexp.MustCompile(`^[A-Z_][a-zA-Z0-9_]*`),
		number:   regexp.MustCompile(`^[0-9]+`),
		quoted:   regexp.MustCompile(`^'(?:[ -&(-\[\]-~]|''|\\[nt\\'])*'`),
		symbols:  regexp.MustCompile(`^[-+*/\\^<>=~:.?@#&$]+`),
	}
}

// cut tells what Cut should of a text that is not too long.
func (x slow) cut(s string) ([]lex.Token, int, api.Errno) {
	var all []lex.Token
	for at := len(x.blank.FindString(s)); at < len(s); {
		one, long, e := x.first(s[at:])
		if e == api.OK && len(all) >= 1024 {
			e = api.EOVER
		}
		if e != api.OK {
			return nil, at, e
		}
		one.At = at
		at += long
		one.Open = strings.HasPrefix(s[at:], "(")
		all = append(all, one)
		at += len(x.blank.FindString(s[at:]))
	}
	return all, len(s), api.OK
}

// first tells the first token of a text that begins with one, and how many bytes it has.
func (x slow) first(s string) (lex.Token, int, api.Errno) {
	one := lex.Token{Kind: name}
	var piece string
	if piece = x.name.FindString(s); piece != "" {
		one.Text = piece
	} else if piece = x.variable.FindString(s); piece != "" {
		return lex.Token{Kind: variable, Text: piece}, len(piece), api.OK
	} else if piece = x.number.FindString(s); piece != "" {
		n, err := strconv.ParseInt(piece, 10, 64)
		if err != nil {
			return lex.Token{}, 0, api.EOVER
		}
		return lex.Token{Kind: number, N: n}, len(piece), api.OK
	} else if piece = x.quoted.FindString(s); piece != "" && !strings.HasPrefix(s[len(piece):], "'") {
		one = lex.Token{Kind: quoted, Text: strings.NewReplacer("''", "'", "\\n", "\n", "\\t", "\t", "\\\\", "\\", "\\'", "'").Replace(piece[1 : len(piece)-1])}
	} else if piece = x.symbols.FindString(s); piece != "" {
		behind := s[len(piece):]
		if strings.HasSuffix(piece, ".") && (behind == "" || strings.Contains(" \t\n\r%", behind[:1])) {
			piece = piece[:len(piece)-1]
		}
		if piece == "" {
			return lex.Token{Kind: end}, 1, api.OK
		}
		one.Text = piece
	} else if strings.Contains("()[]{},|", s[:1]) {
		return lex.Token{Kind: mark, Text: s[:1]}, 1, api.OK
	} else {
		return lex.Token{}, 0, api.EFORM
	}
	if len(one.Text) > 64 {
		return lex.Token{}, 0, api.EOVER
	}
	return one, len(piece), api.OK
}

// dice tells numbers that are the same each time.
type dice uint32

func (d *dice) roll(n int) int {
	*d = *d*1664525 + 1013904223
	return int(*d>>16) % n
}

func TestManyTextsAgainstPatterns(t *testing.T) {
	some := []string{
		"a", "b9", "zA_", "X", "_", "_1", "0", "17", "9223372036854775807", "'", "'", "'a'", "''", "'b c", "\\n", "\\'", "\\\\", "\\t", "\\x", "+", "-", "=..", ".", ".", "\\", ":-", ";", "!", "[", "]", "{", "}",
		"(", "(", ")", ",", "|", " ", " ", "\n", "\t", "\r", "%", "% c\n", "\"", "\x00", "\x7f", "\xff", strings.Repeat("a", 31), strings.Repeat("+", 31), "99999999999",
	}
	x, d := newSlow(), dice(1)
	right := 0
	for i := range 60000 {
		var text strings.Builder
		// The later pieces of the list are seldom right: so each other text leaves them out.
		for range 1 + d.roll(12) {
			text.WriteString(some[d.roll(len(some)-8*(i%2))])
		}
		s := text.String()
		want, at, wrong := x.cut(s)
		got, n, e := lex.Cut(s)
		if !slices.Equal(got, want) || n != at || e != wrong {
			t.Fatalf("P6.1: Cut(%q): %#v, %d, %d; not %#v, %d, %d", s, got, n, e, want, at, wrong)
		}
		if e == api.OK {
			right++
		}
		if plain := e == api.OK && len(want) == 1 && want[0].Kind == name && want[0].Text == s; lex.Plain(s) != plain {
			t.Fatalf("P6.1: Plain(%q): %v", s, !plain)
		}
	}
	if right < 10000 {
		t.Errorf("only %d of the texts are right", right)
	}
}

func TestManyNamesAreReadAsTheyWere(t *testing.T) {
	d := dice(7)
	letters := "abzAZ_019 '\\\n\t+-.%;![]{}(),|~"
	for range 20000 {
		long := d.roll(8)
		if d.roll(50) == 0 {
			long = 60 + d.roll(8)
		}
		b := make([]byte, long)
		for i := range b {
			b[i] = letters[d.roll(len(letters))]
		}
		s, want := string(b), ""
		if len(s) <= 64 {
			want = "'" + strings.NewReplacer("'", "\\'", "\\", "\\\\", "\n", "\\n", "\t", "\\t").Replace(s) + "'"
			if lex.Plain(s) {
				want = s
			}
		}
		holdQuote(t, s, want)
	}
}

func TestAnswersAreNewMemory(t *testing.T) {
	s := "f('a b', X, 12) :- []."
	one, _, _ := lex.Cut(s)
	two, _, _ := lex.Cut(s)
	held := slices.Clone(two)
	for i := range one[:cap(one)] {
		one[:cap(one)][i] = lex.Token{Kind: 9, Text: "over", N: 9, Open: true, At: 9}
	}
	three, _, _ := lex.Cut(s)
	if !slices.Equal(two, held) || !slices.Equal(three, held) {
		t.Errorf("R4: Cut(%q): %#v, then %#v", s, two, three)
	}
}
