package read_test

import (
	"regexp"
	"slices"
	"strconv"
	"strings"
	"testing"

	"sizar/api"
	"sizar/op"
	"sizar/read"
	"sizar/term"
)

// What stands in place of a term where there is none.
const (
	form = "EFORM"
	over = "EOVER"
)

// bare are the names that show writes as they are.
var bare = regexp.MustCompile(`^([a-z][a-zA-Z0-9_]*|[-+*/\\^<>=~:.?@#&$]+|\[\]|\{\}|[;!,])$`)

// show writes a term plainly: all names ahead of their Args, variables as _ and their numbers.
func show(x term.Term) string {
	switch x.Kind {
	case 0:
		return "_" + strconv.FormatInt(x.N, 10)
	case 1:
		return strconv.FormatInt(x.N, 10)
	}
	out := x.Name
	if !bare.MatchString(out) {
		out = strconv.Quote(out)
	}
	if len(x.Args) == 0 {
		return out
	}
	return out + "(" + strings.Join(showAll(x.Args), " ") + ")"
}

func showAll(l []term.Term) []string {
	out := make([]string, len(l))
	for i, x := range l {
		out[i] = show(x)
	}
	return out
}

// number tells the error that stands in place of a term.
func number(want string) api.Errno {
	switch want {
	case form:
		return api.EFORM
	case over:
		return api.EOVER
	}
	return api.OK
}

// holdTerm holds what Term and All answer of a text against the one term that it should be, or the error.
func holdTerm(t *testing.T, ops op.Table, s, want string) {
	t.Helper()
	x, names, e := read.Term(ops, s)
	l, all := read.All(ops, s)
	if wrong := number(want); wrong != api.OK {
		holdNone(t, s, x, names, e, wrong)
		if all != wrong || len(l) != 0 {
			t.Errorf("P8.1: All(%q): %v, %d; not %d", s, showAll(l), all, wrong)
		}
		return
	}
	if e != api.OK || show(x) != want {
		t.Errorf("P8.1: Term(%q): %s, %d; not %s", s, show(x), e, want)
	}
	if all != api.OK || len(l) != 1 || show(l[0]) != want {
		t.Errorf("P8.1: All(%q): %v, %d; not %s", s, showAll(l), all, want)
	}
	if !term.Good(x) {
		t.Errorf("P8.1: Term(%q): %s is not Good", s, show(x))
	}
	for i, n := range term.Vars(x) {
		if n != int64(i) {
			t.Errorf("P8.1: Term(%q): %s has variables %v", s, show(x), term.Vars(x))
		}
	}
}

// holdNone holds what Term answers where there is none.
func holdNone(t *testing.T, s string, x term.Term, names []read.Named, e, want api.Errno) {
	t.Helper()
	if e != want {
		t.Errorf("P8.1: Term(%q): %s, %d; not %d", s, show(x), e, want)
	}
	if x.Kind != 0 || x.N != 0 || x.Name != "" || len(x.Args) != 0 || len(names) != 0 {
		t.Errorf("R2: Term(%q): %s, %v beside %d", s, show(x), names, e)
	}
}

// holdTexts holds texts, each with what it should be behind it.
func holdTexts(t *testing.T, ops op.Table, texts ...string) {
	t.Helper()
	for i := 0; i < len(texts); i += 2 {
		holdTerm(t, ops, texts[i], texts[i+1])
	}
}

// table makes a table of operators, each written as its name, kind and level.
func table(t *testing.T, words ...string) op.Table {
	t.Helper()
	var l []op.Op
	for i := 0; i < len(words); i += 3 {
		level, err := strconv.Atoi(words[i+2])
		if err != nil {
			t.Fatalf("the test has a level %q", words[i+2])
		}
		l = append(l, op.Op{Name: words[i], Kind: words[i+1], Level: level})
	}
	ops := op.Table{L: l}
	if !op.Good(ops) {
		t.Fatalf("the test has a table %v", ops)
	}
	return ops
}

// mixed makes a table of operators of all kinds, some of both sides.
func mixed(t *testing.T) op.Table {
	t.Helper()
	return table(t,
		"x", "xfy", "300", "y", "yfx", "300", "z", "xfx", "300", "p", "fy", "300", "q", "fx", "300",
		"both", "fy", "900", "both", "xfx", "100", "low", "fx", "100", "low", "yfx", "900", "top", "xfx", "1200", "first", "fx", "1", "one", "xfx", "1",
		",", "xfy", "1000", ";", "xfy", "1100", "!", "fy", "50", "-", "xfx", "400", "'", "xfx", "700", "a b", "yfx", "700", "999", "fy", "999", "999", "xfx", "999",
	)
}

func TestOneTokenEach(t *testing.T) {
	for _, ops := range []op.Table{op.Plain(), {}, mixed(t)} {
		holdTexts(t, ops,
			"a.", "a", "abc_D9.", "abc_D9", "'X y'.", "\"X y\"", "''.", "\"\"", "'it''s'.", "\"it's\"", "'\\n\\t'.", "\"\\n\\t\"", "'a'.", "a", "[].", "[]", "{}.", "{}", "'[]'.", "[]", "'{}'.", "{}",
			"'.'.", ".", "'|'.", "\"|\"", "'('.", "\"(\"", "','.", ",", "'12'.", "\"12\"", "'_'.", "\"_\"", "'-'.", "-",
			"X.", "_0", "_.", "_0", "_x.", "_0", "__.", "_0", "Xyz_9.", "_0",
			"0.", "0", "7.", "7", "007.", "7", "9223372036854775807.", "9223372036854775807", "9223372036854775808.", over,
		)
	}
	holdTexts(t, op.Plain(), "!.", "!", "~.", "~", "~ .", "~", "*** .", "***", "?-.", "?-", "?- .", "?-", "~.a.", form)
}

func TestEnds(t *testing.T) {
	for _, ops := range []op.Table{op.Plain(), {}, mixed(t)} {
		holdTexts(t, ops,
			"a .", "a", " \t\r\na\n.\n", "a", "% b\na. % c", "a", "a.% c", "a", "a.\n", "a", "X .", "_0", "f(a) .", "f(a)", "f(a).", "f(a)", "[a].", ".(a [])", "(a).", "a",
			"a", form, "X", form, "1", form, "f(a)", form, "[a]", form, "(a)", form, ".", form, " . ", form, "a..", form, "a. .", form, "a . .", form,
			"a b.", form, "a b", form, "1 2.", form, "X Y.", form, "a X.", form, "X a.", form, "1 a.", form, "'a' b.", form, "'a' 'b'.", form, "a (b).", form, "(a) b.", form, "(a)(b).", form, "[a][b].", form, "f(a)(b).", form,
			"a, b", form, "a). b.", form, "a).", form, "a].", form, "a}.", form, "a|b.", form, ",.", form, "|.", form, ").", form, "].", form, "}.", form, "(.", form, "[.", form, "{.", form, "(", form, "[", form, "{", form,
			"9223372036854775808", over, "'a", form, "a 'b", form, "\"", form, "a \\\\ 'b", form, "'a\nb'.", form, "a\x00.", form, "é.", form,
		)
	}
	for _, s := range []string{"", " ", "\n\t\r ", "% a.", "% a.\n "} {
		x, names, e := read.Term(op.Plain(), s)
		holdNone(t, s, x, names, e, api.EFORM)
		if l, e := read.All(op.Plain(), s); e != api.OK || len(l) != 0 {
			t.Errorf("P8.1: All(%q): %v, %d", s, showAll(l), e)
		}
	}
	for _, s := range []string{"a. b.", "a. b", "a.b .", "a. .", "a. )", "a. 1", "X. Y."} {
		x, names, e := read.Term(op.Plain(), s)
		holdNone(t, s, x, names, e, api.EFORM)
	}
}

func TestNumbersBelowNought(t *testing.T) {
	for _, ops := range []op.Table{op.Plain(), {}, mixed(t), table(t, "-", "fy", "200"), table(t, "-", "fx", "1200"), table(t, "-", "yfx", "500")} {
		holdTexts(t, ops,
			"-12.", "-12", " -12 .", "-12", "-0.", "0", "-007.", "-7", "-9223372036854775807.", "-9223372036854775807", "-9223372036854775808.", over,
			"f(-1).", "f(-1)", "f(-1,-2).", "f(-1 -2)", "[-1].", ".(-1 [])", "[-1|-2].", ".(-1 -2)", "{-1}.", "{}(-1)", "(-1).", "-1", "f( -1).", "f(-1)",
			"-(1).", "-(1)", "-(-1).", "-(-1)", "'-'(1).", "-(1)", "'-'1.", form, "'-' 1.", form, "-1(2).", form, "-1 a.", form, "--1.", form, "+1.", form,
		)
	}
	holdTexts(t, op.Plain(),
		"- 12.", "-(12)", "-\n12.", "-(12)", "-%\n12.", "-(12)", "-\t12.", "-(12)", "- -12.", "-(-12)", "- - 12.", "-(-(12))", "-(12)^2.", "^(-(12) 2)", "-12^2.", "^(-12 2)", "- 12^2.", "-(^(12 2))", "2^ -1.", "^(2 -1)", "2^-1.", form,
		"1-2.", "-(1 2)", "1 -2.", "-(1 2)", "1 - 2.", "-(1 2)", "1 - -2.", "-(1 -2)", "1 -(2).", "-(1 2)", "X-1.", "-(_0 1)", "f(a)-1.", "-(f(a) 1)", "-1-1.", "-(-1 1)", "-1 -1.", "-(-1 1)", "(a)-1.", "-(a 1)", "[a]-1.", "-(.(a []) 1)",
		"a= -1.", "=(a -1)", "a=-1.", form, "\\ -1.", "\\(-1)", "\\+ -1.", "\\+(-1)", "-a.", "-(a)", "-X.", "-(_0)", "'-'a.", form, "-'1'.", "-(\"1\")",
	)
	// Without such an operator a sign stands right ahead of a number, or nowhere.
	holdTexts(t, op.Table{}, "- 12.", form, "-a.", form, "1 -2.", form, "1-2.", form, "- .", "-", "-.", "-", "-'1'.", form)
	// Where it is an operator between alone, nothing begins with it but a number.
	holdTexts(t, mixed(t), "- 12.", form, "1 - -2.", "-(1 -2)", "p -1.", "-(p 1)", "p (-1).", "p(-1)", "p -(1).", "p(-(1))", "p(-1).", "p(-1)", "-1 - -1.", "-(-1 -1)")
}

func TestBrackets(t *testing.T) {
	for _, ops := range []op.Table{op.Plain(), {}, mixed(t)} {
		holdTexts(t, ops,
			"(a).", "a", "((a)).", "a", "( a ) .", "a", "(X).", "_0", "([]).", "[]", "().", form, "( ).", form, "(a.", form, "(a.)", form, "(a].", form, "(a}.", form, "(a|b).", form, "(a)).", form, "((a).", form,
			"{a}.", "{}(a)", "{ a }.", "{}(a)", "{{a}}.", "{}({}(a))", "{(a)}.", "{}(a)", "{[a]}.", "{}(.(a []))", "{X}.", "{}(_0)", "{}(a).", "{}(a)", "'{}'(a).", "{}(a)", "{} (a).", form, "{ }.", form, "{a.", form, "{a).", form, "{a].", form, "{a|b}.", form, "{a}(b).", form, "{a}}.", form,
			"[a].", ".(a [])", "[ a ].", ".(a [])", "[a,b].", ".(a .(b []))", "[a , b].", ".(a .(b []))", "[a,b,c].", ".(a .(b .(c [])))", "[a|b].", ".(a b)", "[a,b|c].", ".(a .(b c))", "[a|[b]].", ".(a .(b []))", "[a|[]].", ".(a [])", "[[a]].", ".(.(a []) [])", "[[]].", ".([] [])", "[[],[]].", ".([] .([] []))",
			"[a|X].", ".(a _0)", "[X,Y|X].", ".(_0 .(_1 _0))", "[(a)|(b)].", ".(a b)", "[](a).", "[](a)", "'[]'(a).", "[](a)", "[]([]).", "[]([])",
			"[ ].", form, "[] (a).", form, "[a", form, "[a.", form, "[a).", form, "[a}.", form, "[a,].", form, "[,a].", form, "[,].", form, "[a,,b].", form, "[|a].", form, "[|].", form, "[a|].", form, "[a||b].", form, "[a|b|c].", form, "[a|b,c].", form, "[a,|b].", form, "[a b].", form, "[a]].", form, "[a](b).", form, "[a|b.", form, "[a|b).", form,
		)
	}
	// Within brackets of their own all levels may stand, as items none above 999.
	holdTexts(t, op.Plain(),
		"(a:-b).", ":-(a b)", "{a:-b}.", "{}(:-(a b))", "{a,b}.", "{}(,(a b))", "(a,b).", ",(a b)", "(a:-b,c).", ":-(a ,(b c))", "((a:-b):-c).", ":-(:-(a b) c)", "{- }.", "{}(-)", "{:- }.", "{}(:-)", "(:-).", ":-", "{a,b;c}.", "{}(;(,(a b) c))",
		"[a:-b].", form, "[a;b].", form, "[a->b].", form, "[(a:-b)].", ".(:-(a b) [])", "[(a,b)].", ".(,(a b) [])", "[a|b:-c].", form, "[a|b;c].", form, "[a|(b;c)].", ".(a ;(b c))", "[a|(b,c)].", ".(a ,(b c))",
		"[a=b].", ".(=(a b) [])", "[a=b|c=d].", ".(=(a b) =(c d))", "[\\+a].", ".(\\+(a) [])", "[a|\\+b].", ".(a \\+(b))", "[:-].", form, "[(:-)].", ".(:- [])", "[':-'].", ".(:- [])", "[;].", form, "[!].", ".(! [])", "[=].", ".(= [])", "[-].", ".(- [])", "[-,-].", ".(- .(- []))", "[-|-].", ".(- -)", "[-|a].", ".(- a)", "[\\+].", ".(\\+ [])", "[a|:-].", form,
	)
	at := table(t, "is", "xfx", "999", "as", "xfx", "1000", "do", "fy", "999", "no", "fy", "1000", "of", "xfx", "1200")
	holdTexts(t, at,
		"[a is b].", ".(is(a b) [])", "[a as b].", form, "[a|b is c].", ".(a is(b c))", "[a|b as c].", form, "f(a is b).", "f(is(a b))", "f(a as b).", form, "f(a,b is c).", "f(a is(b c))", "f(a,b as c).", form, "[do a].", ".(do(a) [])", "[no a].", form, "f(do a).", "f(do(a))", "f(no a).", form,
		"f(is).", "f(is)", "f(as).", form, "f(do).", "f(do)", "f(no).", form, "f('as').", "f(as)", "f((as)).", "f(as)", "(a as b).", "as(a b)", "{a as b}.", "{}(as(a b))", "(a of b).", "of(a b)", "{a of b}.", "{}(of(a b))", "a of b.", "of(a b)", "of.", "of",
	)
}

func TestArguments(t *testing.T) {
	for _, ops := range []op.Table{op.Plain(), {}, mixed(t)} {
		holdTexts(t, ops,
			"f(a).", "f(a)", "f( a ).", "f(a)", "f(a,b).", "f(a b)", "f(a , b).", "f(a b)", "f(a,B,1,-1,[],{},[a],{a},'A').", over, "f(a,B,1,-1,[],{},[a],{a}).", "f(a _0 1 -1 [] {} .(a []) {}(a))", "f(g(h(a))).", "f(g(h(a)))", "'f g'(a).", "\"f g\"(a)", "''(a).", "\"\"(a)", "f((a)).", "f(a)",
			"f().", form, "f( ).", form, "f(.", form, "f(a.", form, "f(a,.", form, "f(a,).", form, "f(,a).", form, "f(,).", form, "f(a,,b).", form, "f(a].", form, "f(a}.", form, "f(a|b).", form, "f(a b).", form, "f(a)).", form, "f (a).", form, "f%\n(a).", form, "X(a).", form, "_(a).", form, "1(a).", form, "(f)(a).", form, "'f' (a).", form,
			"'.'(a,b).", ".(a b)", "'.'(a,[]).", ".(a [])", ".(a,b).", ".(a b)", "'|'(a).", "\"|\"(a)", "','(a,b).", ",(a b)", ",(a,b).", form, "';'(a).", ";(a)", ";(a).", ";(a)", "!(a).", "!(a)", "'('(a).", "\"(\"(a)",
		)
	}
	// A name of operators, too, is ahead of its arguments, if a bracket stands right behind it.
	holdTexts(t, op.Plain(),
		"+(a,b).", "+(a b)", "=(a).", "=(a)", "-(a).", "-(a)", "-(a,b).", "-(a b)", "-(a,b,c).", "-(a b c)", ":-(a).", ":-(a)", "\\+(a,b).", "\\+(a b)", "- (a).", "-(a)", "- (a,b).", "-(,(a b))", "\\+ (a,b).", "\\+(,(a b))", "+ (a,b).", form, "-(a)+b.", "+(-(a) b)", "-(a)^b.", "^(-(a) b)", "f(:-(a)).", "f(:-(a))", "a = :-(b).", "=(a :-(b))", "is(a,b).", "is(a b)", "mod(a).", "mod(a)", ":-(:-).", form, ":-(=).", ":-(=)",
		"f(a=b,c).", "f(=(a b) c)", "f(a:-b).", form, "f((a:-b)).", "f(:-(a b))", "f((a,b)).", "f(,(a b))", "f((a,b),c).", "f(,(a b) c)", "f(a;b).", form, "f(\\+a).", "f(\\+(a))", "f(a ',' b).", form, "f((a ',' b)).", "f(,(a b))", "f(-).", "f(-)", "f(-,a).", "f(- a)", "f(- ,a).", "f(- a)", "f(+).", "f(+)", "f(;).", form, "f((;)).", "f(;)", "f(';').", "f(;)", "f(:-).", form, "f(',').", "f(,)", "f(;,!).", form, "f(\\+).", "f(\\+)", "f(=,=).", "f(= =)",
	)
}

func TestBetween(t *testing.T) {
	holdTexts(t, op.Plain(),
		"X = a + Y.", "=(_0 +(a _1))", "a=b.", "=(a b)", "a= b.", "=(a b)", "a =b.", "=(a b)", "a\n=\nb.", "=(a b)", "a+b+c.", "+(+(a b) c)", "a+(b+c).", "+(a +(b c))", "a+b-c.", "-(+(a b) c)", "a-b+c.", "+(-(a b) c)", "a^b^c.", "^(a ^(b c))", "(a^b)^c.", "^(^(a b) c)", "a*b+c.", "+(*(a b) c)", "a+b*c.", "+(a *(b c))", "(a+b)*c.", "*(+(a b) c)", "a*b*c.", "*(*(a b) c)", "a*b^c.", "*(a ^(b c))", "a^b*c.", "*(^(a b) c)",
		"a=b=c.", form, "(a=b)=c.", "=(=(a b) c)", "a=(b=c).", "=(a =(b c))", "a=b==c.", form, "a<b.", "<(a b)", "a=..b.", "=..(a b)", "a:-b:-c.", form, "a:-(b:-c).", ":-(a :-(b c))", "a,b,c.", ",(a ,(b c))", "(a,b),c.", ",(,(a b) c)", "a;b;c.", ";(a ;(b c))", "a->b->c.", "->(a ->(b c))", "a,b;c->d.", ";(,(a b) ->(c d))", "a->b;c.", ";(->(a b) c)", "a:-b,c.", ":-(a ,(b c))", "a,b:-c.", ":-(,(a b) c)", "a:-b;c,d.", ":-(a ;(b ,(c d)))",
		"a mod b rem c.", "rem(mod(a b) c)", "amodb.", "amodb", "1 mod 2.", "mod(1 2)", "1mod 2.", "mod(1 2)", "X is Y+1.", "is(_0 +(_1 1))", "a xor b/\\c.", "/\\(xor(a b) c)", "a// b>>c<<d.", "<<(>>(//(a b) c) d)",
		"a 'mod' b.", "mod(a b)", "a '+' b*c.", "+(a *(b c))", "a'='b.", "=(a b)", "a '=..' b.", "=..(a b)", "a ',' b.", ",(a b)", "a ',' b , c.", ",(a ,(b c))", "a '\\\\=' b.", "\\=(a b)", "a ':-' b.", ":-(a b)", "a ':-' b ':-' c.", form, "a 'of' b.", form, "a of b.", form,
		"a +(b).", "+(a b)", "a+(b).", "+(a b)", "a =(b,c).", "=(a ,(b c))", "a =(b):-c.", ":-(=(a b) c)", "[a,b]=[C|D].", "=(.(a .(b [])) .(_0 _1))", "{a}={b}.", "=({}(a) {}(b))", "f(a)=g(b).", "=(f(a) g(b))", "'a'='b'.", "=(a b)", "a= 'B'.", "=(a \"B\")",
		"a +.", form, "a + .", form, "a =", form, "= a.", form, "+ a.", form, "a + + b.", form, "a = = b.", form, "a + ) b.", form, "a ! b.", form, "a \\+ b.", form, "a \\ b.", form, "a , .", form, ", a.", form, "a ,, b.", form, "a | b.", form,
	)
	holdTexts(t, mixed(t),
		"a x b.", "x(a b)", "a x b x c.", "x(a x(b c))", "a y b y c.", "y(y(a b) c)", "a z b z c.", form, "a x b y c.", "x(a y(b c))", "a y b x c.", form, "a x b z c.", "x(a z(b c))", "a z b x c.", form, "a y b z c.", form, "a z b y c.", "y(z(a b) c)", "a x b x c y d.", "x(a x(b y(c d)))", "a x b y c y d.", "x(a y(y(b c) d))", "a x b y c x d.", form, "a x (b y c) x d.", "x(a x(y(b c) d))", "a z (b z c).", "z(a z(b c))", "(a z b) z c.", "z(z(a b) c)",
		"a one b.", "one(a b)", "a one b one c.", form, "a one b x c.", "x(one(a b) c)", "a top b.", "top(a b)", "a top b top c.", form, "a,b top c,d.", "top(,(a b) ,(c d))", "a top b;c.", "top(a ;(b c))",
		"a both b.", "both(a b)", "a both b both c.", form, "a both b x c.", "x(both(a b) c)", "a x b both c.", "x(a both(b c))", "a low b low c.", "low(low(a b) c)", "a low b,c.", ",(low(a b) c)",
		"a - b.", "-(a b)", "a - b - c.", form, "a-1.", "-(a 1)", "a ';' b.", ";(a b)", "a;b.", ";(a b)", "a '\\'' b.", "\"'\"(a b)", "a 'a b' b.", "\"a b\"(a b)", "a 'a b' b 'a b' c.", "\"a b\"(\"a b\"(a b) c)", "a '\\'' b 'a b' c.", "\"a b\"(\"'\"(a b) c)", "a 'a b' b '\\'' c.", form, "1 '999' 2.", "\"999\"(1 2)", "1 999 2.", form, "999 1.", form, "'999' 1.", form, "a '-' b.", "-(a b)",
	)
	// Without an operator of that name a comma parts items alone.
	holdTexts(t, table(t, ";", "xfy", "1100"), "a,b.", form, "(a,b).", form, "{a,b}.", form, "f(a,b).", "f(a b)", "[a,b].", ".(a .(b []))", "a;b.", ";(a b)", "a ',' b.", form, "f((a,b)).", form)
	holdTexts(t, op.Table{}, "a=b.", form, "a+b.", form, "a:-b.", form, "a;b.", form, "=(a,b).", "=(a b)", "= .", "=", ":- .", ":-", ";.", ";", "!.", "!", "f(;,:-).", "f(; :-)", "[;|!].", ".(; !)", "; ! .", form)
}

func TestAhead(t *testing.T) {
	holdTexts(t, op.Plain(),
		"-a.", "-(a)", "- a.", "-(a)", "- -a.", "-(-(a))", "--a.", form, "-a*b.", "*(-(a) b)", "-a^b.", "-(^(a b))", "-a+b.", "+(-(a) b)", "-a=b.", "=(-(a) b)", "\\a.", "\\(a)", "\\ \\a.", "\\(\\(a))", "\\ -a.", "\\(-(a))", "- \\a.", "-(\\(a))", "\\+a.", "\\+(a)", "\\+a=b.", "\\+(=(a b))", "\\+a,b.", ",(\\+(a) b)", "\\+ \\+a.", "\\+(\\+(a))", "\\+ \\+a=b.", "\\+(\\+(=(a b)))", "\\+a:-b.", ":-(\\+(a) b)", "a:- \\+b,c.", ":-(a ,(\\+(b) c))",
		"a= \\+b.", form, "a=(\\+b).", "=(a \\+(b))", "a- -b.", "-(a -(b))", "a- - -b.", "-(a -(-(b)))", "a-(-b).", "-(a -(b))", "a* -b^c.", "*(a -(^(b c)))", "a^ -b.", "^(a -(b))", "a^ -b^c.", "^(a -(^(b c)))", "-a^ -b.", "-(^(a -(b)))", "- \\+a.", form, "-(\\+a).", "-(\\+(a))", "- (\\+a).", "-(\\+(a))", "\\+ -a.", "\\+(-(a))", "f(-a).", "f(-(a))", "[-a|-b].", ".(-(a) -(b))", "{-a}.", "{}(-(a))", "(-a).", "-(a)", "(-a)^b.", "^(-(a) b)", "(-a^b)^c.", "^(-(^(a b)) c)",
		"- X.", "-(_0)", "- 'a'.", "-(a)", "- 'A'.", "-(\"A\")", "- [].", "-([])", "- {}.", "-({})", "- [a].", "-(.(a []))", "- {a}.", "-({}(a))", "- (a).", "-(a)", "- f(a).", "-(f(a))", "- !.", "-(!)", "-!.", "-(!)", "- 'f'(a).", "-(f(a))", "- 'of'.", "-(of)",
		"'-' a.", form, "'\\\\+' a.", form, "'-'a.", form, "- a b.", form, "- a - .", form, "-a-b.", "-(-(a) b)",
	)
	holdTexts(t, mixed(t),
		"p a.", "p(a)", "p p a.", "p(p(a))", "q a.", "q(a)", "q q a.", form, "q p a.", form, "p q a.", "p(q(a))", "q (q a).", "q(q(a))", "p a y b.", "p(y(a b))", "p a x b.", "p(x(a b))", "p a z b.", "p(z(a b))", "q a x b.", form, "q a y b.", "y(q(a) b)", "q a z b.", form, "q (a) y b.", "y(q(a) b)", "a x p b.", "x(a p(b))", "a x q b.", "x(a q(b))", "a y p b.", form, "a y q b.", form, "a z p b.", form, "a z (p b).", "z(a p(b))",
		"a x p b x c.", "x(a p(x(b c)))", "first a.", "first(a)", "first first a.", form, "first (first a).", "first(first(a))", "p first a.", "p(first(a))", "first a one b.", form, "first (a) one b.", form, "(first a) one b.", "one(first(a) b)", "first a x b.", "x(first(a) b)",
		"both a.", "both(a)", "both both a.", "both(both(a))", "both a both b.", "both(both(a b))", "both a low b.", "both(low(a b))", "low a.", "low(a)", "low a low b.", "low(low(a) b)", "low a both b.", form, "low (a) both b.", form, "! a.", "!(a)", "! !a.", "!(!(a))", "! a x b.", "x(!(a) b)", "p !.", "p(!)", "! p.", form, "f(both a).", "f(both(a))", "[low a].", ".(low(a) [])",
	)
	holdTexts(t, table(t, "go", "fx", "1200", "do", "fy", "1200"), "go a.", "go(a)", "go go a.", form, "do do a.", "do(do(a))", "do go a.", "do(go(a))", "go do a.", form, "(go a).", "go(a)", "{go a}.", "{}(go(a))", "f(go a).", form, "[go a].", form, "f((go a)).", "f(go(a))", "f(go).", form, "f(go(a)).", "f(go(a))", "go (a).", "go(a)", "go.", "go", "do go.", "do(go)", "go go.", form, "go do.", form)
}

func TestWhatCanBegin(t *testing.T) {
	// What cannot begin a term leaves an operator ahead of it an atom.
	holdTexts(t, op.Plain(),
		"- .", "-", "-.", "-", "(-).", "-", "( - ).", "-", "[-].", ".(- [])", "{-}.", "{}(-)", "[-|a].", ".(- a)", "f(-,a).", "f(- a)", "-,a.", ",(- a)", "- , a.", ",(- a)", "- = a.", "=(- a)", "- '=' a.", "=(- a)", "- + a.", "+(- a)", "- * a.", form, "- is a.", "is(- a)", "-:-a.", form, "- :- a.", ":-(- a)", "\\ = a.", "=(\\ a)", "\\+ , a.", ",(\\+ a)", "\\+ = a.", form, "\\+ :- a.", ":-(\\+ a)", "- ; a.", ";(- a)", "- ';' a.", ";(- a)", "- ',' a.", ",(- a)",
		"- =(a).", "-(=(a))", "- '='(a).", "-(=(a))", "-(=).", "-(=)", "- (=).", "-(=)", "- = (a).", "=(- a)", "- =.", form, "- = .", form, "- '=' .", form, "- mod(a).", "-(mod(a))", "- mod (a).", form, "\\+ mod(a).", "\\+(mod(a))", "\\+ ;(a).", "\\+(;(a))", "\\+ ; (a).", ";(\\+ a)", "- ','(a).", "-(,(a))", "- ;.", form,
		"- -.", form, "- - .", form, "\\+ - .", "\\+(-)", "\\+ -.", "\\+(-)", "\\+ \\+ .", "\\+(\\+)", "\\+ \\ .", "\\+(\\)", "- \\ .", "-(\\)", "\\ \\ .", "\\(\\)", "- '-' .", "-(-)", "- '-'.", "-(-)", "- '-' a.", form, "- '-'(a).", "-(-(a))", "\\+ '\\\\+' .", "\\+(\\+)", "- '\\\\+' .", "-(\\+)",
		"a = - .", "=(a -)", "a = \\ .", "=(a \\)", "a = \\+ .", form, "a = (\\+).", "=(a \\+)", "a - - .", form, "a - (-).", "-(a -)", "a + - .", form, "a ^ - .", form, "a ^ \\ .", "^(a \\)", "f(a = -).", "f(=(a -))", "[a = -|b].", ".(=(a -) b)",
		"- )", form, "- |a.", form, "-].", form, "-}.", form, "- ( .", form, "- [ .", form, "- { .", form,
	)
	holdTexts(t, mixed(t),
		"p.", "p", "p .", "p", "f(p).", "f(p)", "f(p,q).", "f(p q)", "p x a.", form, "first x a.", "x(first a)", "p , a.", ",(p a)", "a x (p).", "x(a p)", "a x p.", "x(a p)", "a y p.", form, "p both.", form, "both p.", "both(p)", "both both.", "both(both)", "both both both a.", "both(both(both(a)))", "a both both.", form, "both both both.", "both(both(both))", "low.", "low", "low low.", form, "p low.", form, "both low.", "both(low)", "low low low a.", form, "p both a.", form, "p 'both'.", "p(both)", "p 'x'.", form, "first 'x' a.", "x(first a)", "p 'x'(a).", "p(x(a))", "p x(a).", "p(x(a))", "p x (a).", form, "first x (a).", "x(first a)",
		"p [].", "p([])", "p [a].", "p(.(a []))", "p {}.", "p({})", "p (a).", "p(a)", "p 1.", "p(1)", "p X.", "p(_0)", "p '' .", "p(\"\")", "p q.", "p(q)", "p first.", "p(first)", "q first.", "q(first)", "first first.", form, "first a.", "first(a)", "p p.", "p(p)", "q q.", form, "q p.", form,
	)
}

func TestAtomsThatAreOperators(t *testing.T) {
	holdTexts(t, op.Plain(),
		":- .", ":-", ":-.", ":-", "= .", "=", "=.", "=", "; .", ";", ";.", ";", "-> .", "->", "is.", "is", "mod .", "mod", "^ .", "^", "\\+ .", "\\+", "(:-).", ":-", "{:-}.", "{}(:-)", "= = .", form, "= = a.", form, "a = = .", form, "(=) = (=).", "=(= =)", "'=' = '='.", "=(= =)", "'=' = = .", form, "(=) = = .", form, "+ = a.", "=(+ a)", "a = + .", "=(a +)", "+ = + .", "=(+ +)", "* + a.", "+(* a)", "+ + a.", "+(+ a)", "a + + .", form, "a + * .", "+(a *)", "a * + .", form, "^ ^ a.", form, "a ^ ^ .", "^(a ^)", "^ * ^ .", "*(^ ^)", "; , a.", form, "a , ; .", form, "a ; ; .", ";(a ;)", "; ; a.", form, "; :- ; .", ":-(; ;)", "is is a.", form, "a is is.", form, "a is mod.", "is(a mod)", "mod is a.", "is(mod a)", ":- :- a.", form, "a :- :- .", form, "a , :- .", form, "a = :- .", form, "a = ':-'.", "=(a :-)", "':-' = a.", "=(:- a)", ":- = a.", form, ":- , a.", form, "a :- ; .", ":-(a ;)", "! , a.", ",(! a)", "a = ! .", "=(a !)",
		"- = - .", "=(- -)", "- - - .", form, "'-' - '-'.", "-(- -)", "(-) - (-).", "-(- -)", "'-' * a.", "*(- a)", "a * '-'.", "*(a -)", "'\\\\+' = a.", "=(\\+ a)", "'\\\\+'.", "\\+",
	)
	// Of both sides it is the greater level that tells.
	holdTexts(t, mixed(t),
		"both.", "both", "low.", "low", "f(both).", "f(both)", "f(low).", "f(low)", "a x both.", form, "a x low.", form, "a x (both).", "x(a both)", "a x 'both'.", "x(a both)", "a ',' both.", ",(a both)", "low , a.", ",(low a)", "both , a.", ",(both a)", "low x a.", form, "both x a.", form, "low low a.", form, "both low a.", "both(low(a))", "a low low.", form, "a low both.", form, "a low 'low'.", "low(a low)", "top.", "top", "f(top).", form, "f('top').", "f(top)", "[top].", form, "[a|top].", form, "(top).", "top", "{top}.", "{}(top)", "x.", "x", "x x a.", form, "y y a.", "y(y a)", "a x x.", "x(a x)", "a y y.", form, "a y x.", form, "x y a.", "y(x a)", "z y z.", form, "one x one.", "x(one one)", "one one a.", form, "'one' one 'one'.", "one(one one)", "first y first.", "y(first first)", "!.", "!", "! x a.", "x(! a)", "! one a.", form, "a one !.", form,
	)
	// A table may name marks: they are operators between quotes alone.
	marks := table(t, "(", "xfx", "700", ")", "xfx", "700", "[", "xfx", "700", "]", "xfx", "700", "{", "xfx", "700", "}", "xfx", "700", "(", "fy", "200", "X", "fy", "200", "X", "xfx", "700", "1", "xfx", "700")
	holdTexts(t, marks,
		"(a).", "a", "[a].", ".(a [])", "{a}.", "{}(a)", "f(a).", "f(a)", "f((a)).", "f(a)", "[[a]].", ".(.(a []) [])", "a ( b.", form, "a ) b.", form, "a ] b.", form, "a } b.", form, "a [ b.", form, "a { b.", form, "a (b).", form, "(a)(b).", form, "a [b].", form, "a ')' b.", "\")\"(a b)", "a '(' b.", "\"(\"(a b)", "a']'b.", "\"]\"(a b)", "a '}' b.", "\"}\"(a b)", "a '[' b.", "\"[\"(a b)", "a '{' b.", "\"{\"(a b)", "'(' a.", form, "'('.", "\"(\"", "a 'X' b.", "\"X\"(a b)", "a X b.", form, "X a.", form, "'X' a.", form, "a '1' b.", "\"1\"(a b)", "a 1 b.", form, "a '(' '('.", "\"(\"(a \"(\")",
	)
}

// holdNames holds the names that Term answers of a text, each with its number, against those that it should.
func holdNames(t *testing.T, s, want string, names ...read.Named) {
	t.Helper()
	holdTerm(t, op.Plain(), s, want)
	if _, got, e := read.Term(op.Plain(), s); e != api.OK || !slices.Equal(got, names) {
		t.Errorf("P8.1: Term(%q): %v, %d; not %v", s, got, e, names)
	}
}

func TestVariables(t *testing.T) {
	n := func(name string, n int64) read.Named { return read.Named{Name: name, N: n} }
	holdNames(t, "a.", "a")
	holdNames(t, "X.", "_0", n("X", 0))
	holdNames(t, "_.", "_0")
	holdNames(t, "_x.", "_0", n("_x", 0))
	holdNames(t, "f(X,Y,X).", "f(_0 _1 _0)", n("X", 0), n("Y", 1))
	holdNames(t, "f(Y,X).", "f(_0 _1)", n("Y", 0), n("X", 1))
	holdNames(t, "f(_,_).", "f(_0 _1)")
	holdNames(t, "f(_,X,_,X,_).", "f(_0 _1 _2 _1 _3)", n("X", 1))
	holdNames(t, "f(__,_,__,_1,_A,_1).", "f(_0 _1 _0 _2 _3 _2)", n("__", 0), n("_1", 2), n("_A", 3))
	holdNames(t, "f(x,X,'X').", "f(x _0 \"X\")", n("X", 0))
	holdNames(t, "f(Xa,XA,X).", "f(_0 _1 _2)", n("Xa", 0), n("XA", 1), n("X", 2))
	holdNames(t, "Z + Y * X - Z.", "-(+(_0 *(_1 _2)) _0)", n("Z", 0), n("Y", 1), n("X", 2))
	holdNames(t, "B :- A, \\+ C ; B.", ":-(_0 ;(,(_1 \\+(_2)) _0))", n("B", 0), n("A", 1), n("C", 2))
	holdNames(t, "[C,B|A] = {B}.", "=(.(_0 .(_1 _2)) {}(_1))", n("C", 0), n("B", 1), n("A", 2))
	holdNames(t, "(((Q))) = [[[Q]],R].", "=(_0 .(.(.(_0 []) []) .(_1 [])))", n("Q", 0), n("R", 1))
	holdNames(t, "- X ^ Y ^ X.", "-(^(_0 ^(_1 _0)))", n("X", 0), n("Y", 1))
}

func TestManyVariables(t *testing.T) {
	var text strings.Builder
	var names []read.Named
	text.WriteString("[")
	for i := range 60 {
		v := "V" + strconv.Itoa(i)
		text.WriteString("f(_," + v + ",V0," + v + "),")
		names = append(names, read.Named{Name: v, N: int64(1 + 2*i)})
	}
	text.WriteString("_].")
	s := text.String()
	x, got, e := read.Term(op.Plain(), s)
	if e != api.OK || !slices.Equal(got, names) {
		t.Errorf("P8.1: Term(%q): %v, %d; not %v", s, got, e, names)
	}
	if many := len(term.Vars(x)); many != 121 {
		t.Errorf("P8.1: Term(%q): %d variables", s, many)
	}
}

// holdAll holds what All answers of a text against the terms that it should.
func holdAll(t *testing.T, ops op.Table, s string, want ...string) {
	t.Helper()
	l, e := read.All(ops, s)
	if e != api.OK || !slices.Equal(showAll(l), want) {
		t.Errorf("P8.1: All(%q): %v, %d; not %v", s, showAll(l), e, want)
	}
}

func TestAll(t *testing.T) {
	ops := op.Plain()
	holdAll(t, ops, "")
	holdAll(t, ops, " \n\t\r% a.")
	holdAll(t, ops, "a. b.", "a", "b")
	holdAll(t, ops, "a.\nb.%c.\nd.", "a", "b", "d")
	holdAll(t, ops, " p(X, Y). % a\nq(Y) :- r(Y, _).\n[].", "p(_0 _1)", ":-(q(_0) r(_0 _1))", "[]")
	holdAll(t, ops, "X. Y. X.", "_0", "_0", "_0")
	holdAll(t, ops, "f(_,X). _. f(Y,X).", "f(_0 _1)", "_0", "f(_0 _1)")
	holdAll(t, ops, "- . - . -1. - 1.", "-", "-", "-1", "-(1)")
	holdAll(t, ops, "a. a. a.", "a", "a", "a")
	holdAll(t, mixed(t), "a x b. p a. both both.", "x(a b)", "p(a)", "both(both)")
	many := slices.Repeat([]string{"a"}, 512)
	holdAll(t, ops, strings.Repeat("a. ", 512), many...)
	for _, c := range []struct {
		s    string
		want api.Errno
	}{
		{"a", api.EFORM}, {"a. b", api.EFORM}, {"a. b c. d.", api.EFORM}, {"a. b. c", api.EFORM}, {"a b. c.", api.EFORM}, {"a..", api.EFORM}, {"a. .", api.EFORM}, {". a.", api.EFORM}, {"a.b.", api.EFORM}, {"a.b", api.EFORM}, {"a. (b. c).", api.EFORM}, {"a. 'b", api.EFORM}, {"a. :- b.", api.EFORM}, {"a. f(b:-c).", api.EFORM},
		{"a. 9223372036854775808.", api.EOVER}, {"a b. 9223372036854775808.", api.EOVER}, {"a b. " + strings.Repeat("c", 65) + ".", api.EOVER}, {nine + ".", api.EOVER}, {"a. " + nine + ". b.", api.EOVER}, {nine + ". b", api.EOVER}, {"a. " + nine + ". b c.", api.EOVER}, {"a", api.EFORM}, {"a b. " + nine + ".", api.EFORM}, {nine + " b.", api.EFORM}, {nine, api.EFORM}, {nine + ". 'b", api.EFORM}, {nested(65) + ". )", api.EOVER}, {"). " + nested(65) + ".", api.EFORM},
	} {
		if l, e := read.All(ops, c.s); e != c.want || len(l) != 0 {
			t.Errorf("P8.1: All(%q): %v, %d; not %d", c.s, showAll(l), e, c.want)
		}
	}
}

// nine is a term of more Args than may be.
const nine = "f(1,2,3,4,5,6,7,8,9)"

// nested writes a term so deep.
func nested(deep int) string {
	return strings.Repeat("f(", deep-1) + "a" + strings.Repeat(")", deep-1)
}

func TestLimits(t *testing.T) {
	ops := op.Plain()
	list := func(many int) string { return "[" + strings.Repeat("a,", many-1) + "a]." }
	sum := func(many int) string { return strings.Repeat("a+", many-1) + "a." }
	power := func(many int) string { return strings.Repeat("a^", many-1) + "a." }
	for i, c := range []struct {
		s    string
		want api.Errno
	}{
		{nested(64) + ".", api.OK}, {nested(65) + ".", api.EOVER}, {nested(65), api.EFORM}, {nested(65) + " b.", api.EFORM}, {nested(65) + ". b.", api.EFORM}, {nested(300) + ".", api.EOVER},
		{list(63), api.OK}, {list(64), api.EOVER}, {list(500), api.EOVER}, {"[a|" + strings.Repeat("[a|", 61) + "b" + strings.Repeat("]", 62) + ".", api.OK}, {"[a|" + strings.Repeat("[a|", 63) + "b" + strings.Repeat("]", 64) + ".", api.EOVER},
		{sum(64), api.OK}, {sum(65), api.EOVER}, {sum(500), api.EOVER}, {power(64), api.OK}, {power(65), api.EOVER}, {power(500), api.EOVER},
		{strings.Repeat("- ", 63) + "a.", api.OK}, {strings.Repeat("- ", 64) + "a.", api.EOVER}, {strings.Repeat("- ", 1000) + "a.", api.EOVER}, {strings.Repeat("- ", 1000) + ".", api.EFORM},
		{strings.Repeat("{", 63) + "a" + strings.Repeat("}", 63) + ".", api.OK}, {strings.Repeat("{", 64) + "a" + strings.Repeat("}", 64) + ".", api.EOVER},
		// Brackets alone make nothing deeper.
		{strings.Repeat("(", 511) + "a" + strings.Repeat(")", 511) + ".", api.OK}, {strings.Repeat("(", 511) + "a" + strings.Repeat(")", 510) + ".", api.EFORM}, {strings.Repeat("(", 1023) + "a", api.EFORM}, {strings.Repeat("[", 1023) + "a", api.EFORM}, {strings.Repeat("f(", 511) + "a", api.EFORM}, {strings.Repeat("a-(", 60) + "a" + strings.Repeat(")", 60) + ".", api.OK},
		{"f(1,2,3,4,5,6,7,8).", api.OK}, {nine + ".", api.EOVER}, {"g(" + nine + ").", api.EOVER}, {"[" + nine + "].", api.EOVER}, {"a:-" + nine + ".", api.EOVER}, {nine + " b.", api.EFORM}, {nine + ". b.", api.EFORM}, {nine, api.EFORM}, {"f(" + strings.Repeat("a,", 500) + "a).", api.EOVER},
		{strings.Repeat("a", 64) + ".", api.OK}, {strings.Repeat("a", 65) + ".", api.EOVER}, {"'" + strings.Repeat("a", 64) + "'.", api.OK}, {"'" + strings.Repeat("a", 65) + "'.", api.EOVER}, {strings.Repeat("X", 300) + ".", api.OK}, {"f(" + strings.Repeat("X", 4092) + ").", api.OK}, {"f(" + strings.Repeat("X", 4093) + ").", api.EOVER},
		{"a." + strings.Repeat(" ", 4094), api.OK}, {"a." + strings.Repeat(" ", 4095), api.EOVER}, {strings.Repeat(" ", 4096), api.EFORM}, {strings.Repeat(" ", 4097), api.EOVER}, {strings.Repeat("(", 1024), api.EFORM}, {strings.Repeat("(", 1025), api.EOVER}, {strings.Repeat("(", 1025) + "'", api.EOVER}, {strings.Repeat("(", 1024) + "'", api.EFORM},
		{wide(3), api.OK}, {wide(4), api.EOVER},
	} {
		x, names, e := read.Term(ops, c.s)
		if e != c.want {
			t.Errorf("P8.1: Term of the text number %d: %d, not %d", i, e, c.want)
		}
		if e != api.OK {
			holdNone(t, "number "+strconv.Itoa(i), x, names, e, c.want)
		} else if !term.Good(x) {
			t.Errorf("P8.1: Term of the text number %d is not Good", i)
		}
	}
}

// wide writes a term so deep, each of whose parts has 8 Args or none, with its end.
func wide(deep int) string {
	s := "a"
	for range deep - 1 {
		s = "f(" + strings.Repeat(s+",", 7) + s + ")"
	}
	return s + "."
}

func TestWrongTables(t *testing.T) {
	wrong := []op.Table{
		{L: []op.Op{{}}}, {L: []op.Op{{Name: "a", Kind: "xfx", Level: 1201}}}, {L: []op.Op{{Name: "a", Kind: "xfx", Level: 0}}}, {L: []op.Op{{Name: "a", Kind: "xf", Level: 1}}}, {L: []op.Op{{Name: ",", Kind: "xfy", Level: 999}}}, {L: []op.Op{{Name: "|", Kind: "xfy", Level: 1000}}}, {L: []op.Op{{Name: "a", Kind: "fy", Level: 1}, {Name: "a", Kind: "fx", Level: 1}}},
		{L: append(op.Plain().L, op.Op{Name: "=", Kind: "xfy", Level: 1})}, {L: make([]op.Op, 129)},
	}
	for _, ops := range wrong {
		for _, s := range []string{"", "a.", "a", "f(X) :- g(X).", "'", "9223372036854775808.", nine + ".", strings.Repeat(" ", 4097)} {
			x, names, e := read.Term(ops, s)
			holdNone(t, s, x, names, e, api.EARG)
			if l, e := read.All(ops, s); e != api.EARG || len(l) != 0 {
				t.Errorf("P8.1: All(%q) by %v: %v, %d", s, ops, showAll(l), e)
			}
		}
	}
}

func TestErrorsInTheirOrder(t *testing.T) {
	// Lex's error is ahead of a wrong form, and that ahead of too great a term.
	for _, c := range []struct {
		s    string
		want api.Errno
	}{
		{") 9223372036854775808", api.EOVER}, {"a b " + strings.Repeat("c", 65), api.EOVER}, {"a 'b 9223372036854775808", api.EFORM}, {nine + ". 'b", api.EFORM}, {nine + ". " + strings.Repeat("c", 65), api.EOVER}, {nine + " )", api.EFORM}, {nine + ". )", api.EFORM}, {"f(" + nine + "", api.EFORM}, {nine + ". .", api.EFORM},
	} {
		x, names, e := read.Term(op.Plain(), c.s)
		holdNone(t, c.s, x, names, e, c.want)
	}
}
