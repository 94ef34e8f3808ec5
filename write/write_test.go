package write_test

import (
	"math"
	"slices"
	"strconv"
	"strings"
	"testing"

	"sizar/api"
	"sizar/lex"
	"sizar/op"
	"sizar/read"
	"sizar/term"
	"sizar/write"
)

// table makes a table of operators, each written as its name, kind and level.
func table(t *testing.T, words ...string) op.Table {
	t.Helper()
	var l []op.Op
	for i := 0; i < len(words); i += 3 {
		level, err := strconv.Atoi(words[i+2])
		if err != nil {
			t.Fatalf("the test has a level %q", words[i+2])
		}
		l = append(l, op.Op{Name: words[i], Kind: words[i+1], Level: level})
	}
	ops := op.Table{L: l}
	if !op.Good(ops) {
		t.Fatalf("the test has a table %v", ops)
	}
	return ops
}

// mixed is a table with each kind, of one level and of others, and with names that need quotes.
func mixed(t *testing.T) op.Table {
	t.Helper()
	return table(t, "xx", "xfx", "300", "xy", "xfy", "300", "yx", "yfx", "300", "also", "yfx", "300", "py", "fy", "300", "px", "fx", "300",
		"less", "yfx", "200", "more", "xfx", "1100", "both", "fy", "900", "both", "xfx", "100", "twin", "fx", "100", "twin", "yfx", "1100",
		"top", "fy", "1200", "top", "xfx", "1200", "one", "xfx", "1", "first", "fx", "1",
		"a b", "fy", "200", "c d", "xfx", "200", ".", "xfx", "50", ".", "fy", "50", "(", "xfx", "400", ",", "xfy", "1000")
}

// reads reads the term that a text of the test is.
func reads(t *testing.T, ops op.Table, s string) term.Term {
	t.Helper()
	x, _, e := read.Term(ops, s+" .")
	if e != api.OK {
		t.Fatalf("the test has a text %q that is not read: %d", s, e)
	}
	return x
}

// renamed numbers variables by a list: each by where it is there.
func renamed(x term.Term, l []int64) term.Term {
	if x.Kind == 0 {
		return term.Var(int64(slices.Index(l, x.N)))
	}
	args := make([]term.Term, len(x.Args))
	for i, a := range x.Args {
		args[i] = renamed(a, l)
	}
	x.Args = args
	return x
}

// holdRead holds what is read of a text against the term that it was written of.
func holdRead(t *testing.T, ops op.Table, x term.Term, s string) {
	t.Helper()
	if _, _, e := lex.Cut(s + " ."); e != api.OK {
		return
	}
	got, _, e := read.Term(ops, s+" .")
	if e != api.OK || !term.Same(got, renamed(x, term.Vars(x))) {
		t.Errorf("P9.2: %q is read otherwise than it was written: %d", s, e)
	}
}

// hold holds what Term answers of a term against a text, and what is read of that against the term.
func hold(t *testing.T, ops op.Table, x term.Term, want string) {
	t.Helper()
	got, e := write.Term(ops, x)
	if got != want || e != api.OK {
		t.Errorf("P9.1: Term: %q, %d; not %q", got, e, want)
		return
	}
	holdRead(t, ops, x, got)
}

// holdAs holds texts, each with how the term that it is read as is to be written behind it.
func holdAs(t *testing.T, ops op.Table, texts ...string) {
	t.Helper()
	for i := 0; i < len(texts); i += 2 {
		hold(t, ops, reads(t, ops, texts[i]), texts[i+1])
	}
}

// holdPlain holds what Plain answers of a term against a text, and what is read of that without operators against the term.
func holdPlain(t *testing.T, x term.Term, want string) {
	t.Helper()
	got, e := write.Plain(x)
	if got != want || e != api.OK {
		t.Errorf("P9.1: Plain: %q, %d; not %q", got, e, want)
		return
	}
	holdRead(t, op.Table{}, x, got)
}

// holdNone holds what both answer where they refuse.
func holdNone(t *testing.T, what string, ops op.Table, x term.Term, want api.Errno) {
	t.Helper()
	if s, e := write.Term(ops, x); s != "" || e != want {
		t.Errorf("P9.1, R2: Term of %s: %d bytes, %d; not %d", what, len(s), e, want)
	}
	if s, e := write.Plain(x); op.Good(ops) && (s != "" || e != want) {
		t.Errorf("P9.1, R2: Plain of %s: %d bytes, %d; not %d", what, len(s), e, want)
	}
}

// written is a term, and how it is written.
type written struct {
	x    term.Term
	want string
}

// alike are terms that both write in one way, by a plain table or an empty one.
func alike() []written {
	a := term.Atom("a")
	return []written{
		{term.Var(5), "_0"}, {term.Var(math.MaxInt32), "_0"},
		{term.Int(0), "0"}, {term.Int(12), "12"}, {term.Int(-12), "-12"},
		{term.Int(math.MaxInt64), "9223372036854775807"}, {term.Int(-math.MaxInt64), "-9223372036854775807"}, {term.Int(math.MinInt64), "-9223372036854775808"},
		{a, "a"}, {term.Atom("aB_9"), "aB_9"}, {term.Atom("!"), "!"}, {term.Atom("[]"), "[]"}, {term.Atom("{}"), "{}"}, {term.Atom("~"), "~"},
		{term.Atom(""), "''"}, {term.Atom("A"), "'A'"}, {term.Atom("_"), "'_'"}, {term.Atom("1"), "'1'"}, {term.Atom("-1"), "'-1'"},
		{term.Atom("a b"), "'a b'"}, {term.Atom(" a"), "' a'"}, {term.Atom("a%"), "'a%'"}, {term.Atom("~}"), "'~}'"}, {term.Atom("a."), "'a.'"},
		{term.Atom("."), "'.'"}, {term.Atom("("), "'('"}, {term.Atom("|"), "'|'"}, {term.Atom("it's"), `'it\'s'`}, {term.Atom("\n\t\\'"), `'\n\t\\\''`},
		{term.Atom(strings.Repeat("\n", api.MaxAtom)), "'" + strings.Repeat(`\n`, api.MaxAtom) + "'"},
		{term.Comp("f", a), "f(a)"}, {term.Comp("f", a, a, a, a, a, a, a, a), "f(a,a,a,a,a,a,a,a)"},
		{term.Comp("f", term.Var(9), term.Var(2), term.Var(9), term.Var(0)), "f(_0,_1,_0,_2)"},
		{term.Comp("f", term.Comp("g", term.Var(1)), term.Comp("g", term.Var(0)), term.Var(1)), "f(g(_0),g(_1),_0)"},
		{term.Comp("f", term.Int(-1), term.Int(0), term.Int(1)), "f(-1,0,1)"},
		{term.Comp("F g", a, term.Atom("")), "'F g'(a,'')"}, {term.Comp("", a), "''(a)"}, {term.Comp("!", a), "!(a)"},
		{term.Comp("[]", a), "[](a)"}, {term.Comp("[]", a, term.Atom("[]")), "[](a,[])"}, {term.Comp("{}", a, a), "{}(a,a)"},
		{term.Comp(".", a), "'.'(a)"}, {term.Comp(".", a, a, a), "'.'(a,a,a)"},
		{term.Comp("-", term.Int(1)), "-(1)"}, {term.Comp("-", term.Int(0)), "-(0)"}, {term.Comp("-", term.Int(-1)), "-(-1)"}, {term.Comp("-", term.Int(math.MinInt64)), "-(-9223372036854775808)"},
		{term.Comp("-", a, a, a), "-(a,a,a)"}, {term.Comp("=", a), "=(a)"}, {term.Comp("=", term.Int(-1)), "=(-1)"}, {term.Comp("=", term.Atom("[]"), a, term.Int(-1)), "=([],a,-1)"},
		{term.Comp(",", a), "','(a)"}, {term.Comp(",", a, a, a), "','(a,a,a)"}, {term.Comp("=..", a), "'=..'(a)"}, {term.Comp("|", a, a), "'|'(a,a)"},
	}
}

func TestWhatBothWriteAlike(t *testing.T) {
	for _, c := range alike() {
		holdPlain(t, c.x, c.want)
		hold(t, op.Plain(), c.x, c.want)
		hold(t, op.Table{}, c.x, c.want)
	}
}

// apart are terms that Plain writes in another way than Term by the plain table.
func apart() []written {
	a, b := term.Atom("a"), term.Atom("b")
	return []written{
		{term.Comp("+", a, b), "+(a,b)"}, {term.Comp("-", a), "-(a)"}, {term.Comp(",", a, b), "','(a,b)"}, {term.Comp("=..", a, b), "'=..'(a,b)"},
		{term.Comp("is", term.Var(3), term.Comp("+", term.Var(1), term.Int(-1))), "is(_0,+(_1,-1))"},
		{term.Comp(":-", a, term.Comp(",", b, term.Atom(","))), ":-(a,','(b,','))"},
		{term.Comp("f", term.Atom(":-"), term.Atom(","), term.Atom(";")), "f(:-,',',;)"},
		{term.Comp("-", term.Atom("-"), term.Int(-1)), "-(-,-1)"},
		{term.List([]term.Term{a, b}, term.Atom("[]")), "'.'(a,'.'(b,[]))"}, {term.List([]term.Term{a}, term.Var(2)), "'.'(a,_0)"},
		{term.Comp("{}", term.Comp(",", a, b)), "{}(','(a,b))"},
	}
}

func TestPlainHasNoOperators(t *testing.T) {
	for _, c := range apart() {
		holdPlain(t, c.x, c.want)
		if got, e := write.Term(op.Plain(), c.x); got == c.want || e != api.OK {
			t.Errorf("P9.1: Term: %q, %d", got, e)
		}
	}
}

func TestListsAndBraces(t *testing.T) {
	holdAs(t, op.Plain(),
		"[a]", "[a]", "[a,b,c]", "[a,b,c]", "[a|b]", "[a|b]", "[a,b|X]", "[a,b|_0]", "[X,Y|X]", "[_0,_1|_0]", "[a|[]]", "[a]", "[a|[b|[c]]]", "[a,b,c]", "[a|[b|c]]", "[a,b|c]",
		"[[a],[]|[[b]]]", "[[a],[],[b]]", "[[]]", "[[]]", "[[]|{}]", "[[]|{}]", "[a|[](b)]", "[a|[](b)]", "[a|'[]']", "[a]", "[-1|-2]", "[-1|-2]", "'.'(a,b)", "[a|b]", "'.'('.'(a,[]),[])", "[[a]]",
		"[(a,b),c=d]", "[(a,b),c = d]", "[(a:-b)|(c,d)]", "[(a :- b)|(c,d)]", "[(a;b)]", "[(a ; b)]", "[\\+a|\\+b]", "[\\+ a|\\+ b]", "[-|-]", "[-|-]", "[\\+|\\+]", "[\\+|\\+]", "[(:-),(;)|(->)]", "[(:-),(;)|(->)]", "[','|',']", "[(',')|(',')]",
		"{a}", "{a}", "{X}", "{_0}", "{-1}", "{-1}", "{a,b}", "{a,b}", "{a:-b,c}", "{a :- b,c}", "{{}}", "{{}}", "{{a}}", "{{a}}", "{[a]}", "{[a]}", "{-}", "{-}", "{:-}", "{:-}", "{','}", "{','}", "'{}'(a)", "{a}", "{}((a;b))", "{a ; b}",
		"[a]+{b}", "[a] + {b}", "- [a]", "- [a]", "- {a}", "- {a}", "- []", "- []", "\\+ {}", "\\+ {}",
	)
	// A list comes ahead of an operator of its name, and is of no level.
	dotted := table(t, ".", "yfx", "1100", ".", "fy", "900", "x", "xfx", "1", "p", "fx", "1")
	holdAs(t, dotted, "'.'(a,b)", "[a|b]", "[a|b] x [c]", "[a|b] x [c]", "p [a]", "p [a]", "f([a])", "f([a])", "'.'(a)", "'.'(a)", "a x '.'(b)", "a x '.'(b)", "f('.')", "f(('.'))", "'.'", "'.'", "[a|'.']", "[a|('.')]", "p '.'", "p ('.')")
	holdAs(t, op.Table{}, "[a,b|c]", "[a,b|c]", "{a}", "{a}", "{[a]}", "{[a]}", "[:-|-]", "[:-|-]")
}

func TestOperatorsBetween(t *testing.T) {
	holdAs(t, op.Plain(),
		"a+b", "a + b", "X=Y", "_0 = _1", "a:-b", "a :- b", "a->b;c", "a -> b ; c", "a->(b;c)", "a -> (b ; c)", "a,b,c", "a,b,c", "(a,b),c", "(a,b),c", "a , (b:-c)", "a,(b :- c)", "(a;b),c", "(a ; b),c", "a;b,c", "a ; b,c",
		"a+b+c", "a + b + c", "a+(b+c)", "a + (b + c)", "a-b+c", "a - b + c", "a-(b+c)", "a - (b + c)", "a+b*c", "a + b * c", "(a+b)*c", "(a + b) * c", "a*b+c", "a * b + c", "a*(b+c)", "a * (b + c)", "a*b//c mod d", "a * b // c mod d",
		"a^b^c", "a ^ b ^ c", "(a^b)^c", "(a ^ b) ^ c", "a^(b*c)", "a ^ (b * c)", "a*b^c", "a * b ^ c", "(a=b)=c", "(a = b) = c", "a=(b=c)", "a = (b = c)", "(a is b)<c", "(a is b) < c", "(a:-b):-c", "(a :- b) :- c",
		"a=..b", "a '=..' b", "a is b xor c", "a is b xor c", "a rem b", "a rem b", "a>>b<<c", "a >> b << c", "a/\\b\\/c", "a /\\ b \\/ c", "a\\==b", "a \\== b",
		"f(a=b,(c,d),(e:-f),(g;h))", "f(a = b,(c,d),(e :- f),(g ; h))", "f((a:-b)+c)", "f((a :- b) + c)", "(a:-b)", "a :- b", "'+'(a,b)", "a + b", "+(a,b)", "a + b", "a+f(b+c)", "a + f(b + c)", "','(a,b)", "a,b", "'a b'+'C'", "'a b' + 'C'", "''=''", "'' = ''",
	)
	// Without an operator of its name, one of two is as any other.
	holdAs(t, op.Table{}, "+(a,b)", "+(a,b)", "','(a,b)", "','(a,b)", "','(a,-1)", "','(a,-1)", "=(+,-)", "=(+,-)")
	holdAs(t, table(t, "x", "fy", "200"), "x(a,b)", "x(a,b)", "x(x,-1)", "x(x,-1)")
}

func TestOperatorsAhead(t *testing.T) {
	holdAs(t, op.Plain(),
		"-a", "- a", "-(a)", "- a", "-X", "- _0", "- - a", "- - a", "\\ -a", "\\ - a", "-(a+b)", "- (a + b)", "-a+b", "- a + b", "-(a^b)", "- a ^ b", "(-a)^b", "(- a) ^ b", "-a*b", "- a * b", "a^(-b)", "a ^ - b", "a- -b", "a - - b", "a^b^(-c)", "a ^ b ^ - c",
		"\\+a", "\\+ a", "\\+ \\+ a", "\\+ \\+ a", "\\+a=b", "\\+ a = b", "(\\+a)=b", "(\\+ a) = b", "a=(\\+b)", "a = (\\+ b)", "\\+ (a,b)", "\\+ (a,b)", "\\+a,b", "\\+ a,b", "a,\\+b", "a,\\+ b", "f(\\+a,-b)", "f(\\+ a,- b)",
		"\\1", "\\ 1", "\\ (-1)", "\\ (-1)", "-(1)", "-(1)", "- (1)", "-(1)", "-(-1)", "-(-1)", "-(1)^2", "-(1) ^ 2", "-(1^2)", "- 1 ^ 2", "-(-(1))", "- -(1)", "\\ -(1)", "\\ -(1)", "-(-(-1))", "- -(-1)", "a- -(1)", "a - -(1)", "-f(1)", "- f(1)", "-(1+2)", "- (1 + 2)", "-'a b'", "- 'a b'", "- =(a)", "- =(a)",
	)
	ops := mixed(t)
	// What is not lex's Plain would not be read as an operator ahead: its one arg stands behind it.
	holdAs(t, ops, "'a b'(c)", "'a b'(c)", "'a b'(-1)", "'a b'(-1)", "'a b'('a b')", "'a b'('a b')", "'a b'(both)", "'a b'(both)", "'a b'((a more b))", "'a b'((a more b))", "px 'a b'(c)", "px 'a b'(c)", "'a b'(c) less d", "'a b'(c) less d")
	holdAs(t, ops, "top a", "top a", "top top a", "top top a", "f((top a))", "f((top a))", "both both a", "both both a", "both a both b", "both a both b", "(both a) both b", "(both a) both b", "a both (both b)", "a both (both b)", "twin(twin(a))", "twin (twin a)", "a twin twin b", "a twin twin b", "(twin a) twin b", "twin a twin b", "first(first(a))", "first (first a)", "first -1", "first (-1)", "py -(1)", "py -(1)", "px 1", "px 1")
	holdAs(t, op.Table{}, "-(a)", "-(a)", "\\+(a)", "\\+(a)", "-(-)", "-(-)", "-(1)", "-(1)")
	holdAs(t, table(t, "-", "xfx", "200"), "-(a)", "-(a)", "-(1)", "-(1)", "-(-(a),b)", "-(a) - b")
	holdAs(t, table(t, "+", "fy", "200", "-", "fx", "200"), "+ 1", "+ 1", "+ (-1)", "+ (-1)", "+ + 1", "+ + 1", "- (- a)", "- (- a)", "- (-(1))", "- -(1)", "+ -(1)", "+ -(1)", "- (+ a)", "- (+ a)", "+ (- a)", "+ - a")
}

func TestLevelsOfEachKind(t *testing.T) {
	ops := mixed(t)
	holdAs(t, ops,
		// What stands left and right of each kind, one below its level, of it, and above it.
		"(a less b) xx (c less d)", "a less b xx c less d", "(a xx b) xx c", "(a xx b) xx c", "a xx (b xx c)", "a xx (b xx c)", "(a xy b) xx c", "(a xy b) xx c", "a xx (b yx c)", "a xx (b yx c)", "(a more b) xx c", "(a more b) xx c",
		"(a xy b) xy c", "(a xy b) xy c", "a xy (b xy c)", "a xy b xy c", "a xy (b yx c)", "a xy b yx c", "a xy (b xx c)", "a xy b xx c", "(a yx b) xy c", "(a yx b) xy c", "a xy (b more c)", "a xy (b more c)", "(a less b) xy c", "a less b xy c",
		"(a yx b) yx c", "a yx b yx c", "(a yx b) also c", "a yx b also c", "a yx (b yx c)", "a yx (b yx c)", "(a yx b yx c) also d", "a yx b yx c also d", "a yx (b more c)", "a yx (b more c)", "(a more b) yx c", "(a more b) yx c", "a yx (b less c)", "a yx b less c",
		"py (a yx b)", "py a yx b", "py (py a)", "py py a", "py (px a)", "py px a", "py (a more b)", "py (a more b)", "px (a yx b)", "px (a yx b)", "px (px a)", "px (px a)", "px (py a)", "px (py a)", "px (a less b)", "px a less b",
		// What stands left of a yfx, is of its level, and is not such a one itself.
		"(a xx b) yx c", "(a xx b) yx c", "(a xy b) yx c", "(a xy b) yx c", "(py a) yx b", "(py a) yx b", "(px a) yx b", "(px a) yx b", "(py a yx b) yx c", "(py a yx b) yx c", "((py a) yx b) yx c", "(py a) yx b yx c", "((a xy b) yx c) yx d", "(a xy b) yx c yx d", "(a less b) yx c", "a less b yx c",
		// The least and the greatest.
		"(a one b) one c", "(a one b) one c", "a one (first b)", "a one (first b)", "a one b xx c", "a one b xx c", "first (a one b)", "first (a one b)", "a top b", "a top b", "(a top b) top c", "(a top b) top c", "f((a top b))", "f((a top b))", "{a top b}", "{a top b}", "top (a top b)", "top a top b",
		// Names that need quotes, between.
		"a 'c d' b", "a 'c d' b", "(a 'c d' b) 'c d' c", "(a 'c d' b) 'c d' c", "a '(' b", "a '(' b", "a,(b 'c d' c)", "a,b 'c d' c", "py a 'c d' b", "py a 'c d' b",
	)
}

func TestAtomsThatAreOperators(t *testing.T) {
	holdAs(t, op.Plain(),
		// Where as much as their level may stand, they are as any other.
		"-", "-", ":-", ":-", ";", ";", "','", "','", "is", "is", "f(-)", "f(-)", "f(-,=,mod)", "f(-,=,mod)", "[-,=|^]", "[-,=|^]", "{;}", "{;}", "{->}", "{->}", "-(-,a)", "(-) - a", "=(-)", "=(-)", "-(-,-,-)", "-(-,-,-)",
		// Where only less may, they are in brackets.
		"f((:-))", "f((:-))", "f((;),(->))", "f((;),(->))", "f(',')", "f((','))", "[(;)]", "[(;)]", "[a|(:-)]", "[a|(:-)]", "=((:-))", "=((:-))", "f('=..')", "f('=..')",
		// Beside an operator, they are, too.
		"(-)+a", "(-) + a", "a+(-)", "a + (-)", "(=)=(=)", "(=) = (=)", "-(-)", "- (-)", "- (=)", "- (=)", "\\+ (\\+)", "\\+ (\\+)", "(:-):-(:-)", "(:-) :- (:-)", "(;),(;)", "(;),(;)", "','=a", "(',') = a", "',' , ','", "(','),(',')", "a='=..'", "a = ('=..')", "(^)*(mod)", "(^) * (mod)", "f(a=(=))", "f(a = (=))", "{(-),(-)}", "{(-),(-)}",
		// In brackets of other kinds, and with args, they are beside none.
		"[-]+{-}", "[-] + {-}", "-(-)+f(-)", "- (-) + f(-)", "=(a)= =(b)", "=(a) = =(b)", "a= \\+(-,b,c)", "a = \\+(-,b,c)", "[]+{}", "[] + {}", "!,!", "!,!",
	)
	ops := mixed(t)
	// The level of one that is both is the greater of its levels.
	holdAs(t, ops, "both", "both", "f(both)", "f(both)", "f((twin))", "f((twin))", "f((top))", "f((top))", "[both|(twin)]", "[both|(twin)]", "{twin}", "{twin}", "{top}", "{top}", "twin (twin)", "twin (twin)", "(both) both (both)", "(both) both (both)", "both (both)", "both (both)", "(twin) twin a", "(twin) twin a",
		"f((more))", "f((more))", "f(one,first)", "f(one,first)", "first (first)", "first (first)", "(one) one (one)", "(one) one (one)",
		// Those in quotes, too.
		"'a b'", "'a b'", "f('a b','c d')", "f('a b','c d')", "py 'a b'", "py ('a b')", "'c d' xx '.'", "('c d') xx ('.')", "'('", "'('", "a yx '('", "a yx ('(')", "first ('(')", "first ('(')", "f(',')", "f((','))", "',' , a", "(','),a")
	holdAs(t, table(t, "F g", "xfx", "1000", "H i", "fy", "1100", "x", "xfx", "1"), "'F g'", "'F g'", "f('F g')", "f(('F g'))", "['H i'|'F g']", "[('H i')|('F g')]", "a x 'H i'", "a x ('H i')", "',' x ','", "',' x ','")
	holdAs(t, op.Table{}, "f(:-,',',-)", "f(:-,',',-)", "[;|','(-)]", "[;|','(-)]")
}

func TestNumbersBelowNought(t *testing.T) {
	holdAs(t, op.Plain(),
		"-1", "-1", "f(-1)", "f(-1)", "[-1,-2|-3]", "[-1,-2|-3]", "{-1}", "{-1}", "'a b'(-1)", "'a b'(-1)", "=(-1)", "=(-1)", "+(-1,-1,-1)", "+(-1,-1,-1)",
		"-1+2", "(-1) + 2", "2+ -1", "2 + (-1)", "-1,-1", "(-1),(-1)", "(-1)^(-1)", "(-1) ^ (-1)", "\\ -1", "\\ (-1)", "\\+ -1", "\\+ (-1)", "-1:- -1", "(-1) :- (-1)", "1-1", "1 - 1", "1- -1", "1 - (-1)", "0-0", "0 - 0", "- -(-1)", "- -(-1)", "-(-1)+1", "-(-1) + 1", "f(-1)+[-1]", "f(-1) + [-1]",
	)
	hold(t, op.Plain(), term.Comp("-", term.Int(1), term.Int(math.MinInt64)), "1 - (-9223372036854775808)")
	hold(t, op.Plain(), term.Comp("-", term.Int(math.MaxInt64)), "-(9223372036854775807)")
	hold(t, op.Plain(), term.Comp("+", term.Int(1), term.Comp("-", term.Int(2))), "1 + -(2)")
}

func TestVariables(t *testing.T) {
	x, y, z := term.Var(7), term.Var(0), term.Var(math.MaxInt32)
	c := term.Comp("=", term.List([]term.Term{x, y}, z), term.Comp("+", z, term.Comp("{}", term.Comp("-", x))))
	hold(t, op.Plain(), c, "[_0,_1|_2] = _2 + {- _0}")
	holdPlain(t, c, "=('.'(_0,'.'(_1,_2)),+(_2,{}(-(_0))))")
	var l []term.Term
	for i := range 40 {
		l = append(l, term.Var(int64(90-2*i)))
	}
	var want []string
	for i := range 40 {
		want = append(want, "_"+strconv.Itoa(i))
	}
	hold(t, op.Plain(), term.List(append(l, l[11]), term.Atom("[]")), "["+strings.Join(append(want, "_11"), ",")+"]")
}

// deep makes a term of that depth.
func deep(n int) term.Term {
	x := term.Atom("a")
	for range n - 1 {
		x = term.Comp("f", x)
	}
	return x
}

// great makes a term of that size, from 1981 to 2011: a list of lists, and what is deep as its tail.
func great(n int) term.Term {
	row := term.List(slices.Repeat([]term.Term{term.Atom("b")}, 29), term.Atom("[]"))
	return term.List(slices.Repeat([]term.Term{row}, 33), deep(n-1980))
}

// long makes a term that is written with that many bytes, from 4058 to 4122, with operators and without.
func long(n int) term.Term {
	rows := make([]term.Term, 8)
	for i := range rows {
		names := make([]term.Term, 8)
		for k := range names {
			size := 62
			if 8*i+k < n-4058 {
				size++
			}
			names[k] = term.Atom(strings.Repeat("a", size))
		}
		rows[i] = term.Comp("g", names...)
	}
	return term.Comp("f", rows...)
}

func TestWrongTerms(t *testing.T) {
	a := term.Atom("a")
	for what, x := range map[string]term.Term{
		"kind 3": {Kind: 3}, "kind -1": {Kind: -1}, "a kind far off": {Kind: math.MinInt},
		"a variable below 0": term.Var(-1), "too great a variable": term.Var(math.MaxInt32 + 1), "a variable with a name": {Name: "a"}, "a variable with an arg": {Args: []term.Term{a}},
		"a number with a name": {Kind: 1, Name: "a"}, "a number with an arg": {Kind: 1, Args: []term.Term{a}}, "a name with a number": {Kind: 2, N: 1, Name: "a"},
		"byte 1": term.Atom("\x01"), "byte 13": term.Atom("\r"), "byte 127": term.Atom("\x7f"), "byte 195": term.Atom("\u00e9"), "too long a name": term.Atom(strings.Repeat("a", api.MaxAtom+1)),
		"too many args": term.Comp("f", a, a, a, a, a, a, a, a, a), "too deep a one": deep(api.MaxDepth + 1), "too great a one": great(api.MaxCells + 1),
		"a wrong one within": term.Comp("+", a, term.Comp("-", term.Var(-1))), "a wrong one in a list": term.List([]term.Term{a, {Kind: 4}}, a), "a wrong tail": term.List([]term.Term{a}, term.Term{Kind: 1, Name: "a"}),
		"a wrong one in one that is too long": term.Comp("f", long(4122), term.Var(-1)),
	} {
		holdNone(t, what, op.Plain(), x, api.EARG)
		holdNone(t, what, op.Table{}, x, api.EARG)
	}
	round := []term.Term{a, a}
	round[1] = term.Term{Kind: 2, Name: ".", Args: round}
	holdNone(t, "one that has itself among its args", op.Plain(), round[1], api.EARG)
}

func TestWrongTables(t *testing.T) {
	many := make([]op.Op, 129)
	for i := range many {
		many[i] = op.Op{Name: "o" + strconv.Itoa(i), Kind: "xfx", Level: 700}
	}
	if s, e := write.Term(op.Table{L: many[:128]}, term.Comp("o127", term.Int(1), term.Int(2))); s != "1 o127 2" || e != api.OK {
		t.Errorf("P9.1: Term by a table of 128: %q, %d", s, e)
	}
	for what, l := range map[string][]op.Op{
		"of a zero one": {{}}, "of 129": many, "of one twice": {many[0], many[1], many[0]}, "of one twice, of other kinds": {{Name: "p", Kind: "fy", Level: 1}, {Name: "p", Kind: "fx", Level: 2}},
		"of no name": {{Kind: "fy", Level: 1}}, "of level 0": {{Name: "p", Kind: "fy"}}, "of level 1201": {{Name: "p", Kind: "fy", Level: 1201}}, "of a kind behind": {{Name: "p", Kind: "xf", Level: 1}},
		"of a |": {{Name: "|", Kind: "xfy", Level: 1100}}, "of a []": {{Name: "[]", Kind: "fy", Level: 1}}, "of another comma": {{Name: ",", Kind: "xfy", Level: 999}}, "of too long a name": {{Name: strings.Repeat("a", api.MaxAtom+1), Kind: "fy", Level: 1}},
	} {
		ops := op.Table{L: l}
		for _, x := range []term.Term{term.Int(1), term.Comp("p", term.Atom("a")), term.Var(-1), long(4097)} {
			holdNone(t, "one by a table "+what, ops, x, api.EARG)
		}
	}
}

func TestLimits(t *testing.T) {
	ops, a := op.Plain(), term.Atom("a")
	hold(t, ops, deep(api.MaxDepth), strings.Repeat("f(", api.MaxDepth-1)+"a"+strings.Repeat(")", api.MaxDepth-1))
	holdPlain(t, deep(api.MaxDepth), strings.Repeat("f(", api.MaxDepth-1)+"a"+strings.Repeat(")", api.MaxDepth-1))
	minus := a
	for range api.MaxDepth - 1 {
		minus = term.Comp("-", minus)
	}
	hold(t, ops, minus, strings.Repeat("- ", api.MaxDepth-1)+"a")
	x := great(api.MaxCells)
	if !term.Good(x) || term.Good(great(api.MaxCells+1)) {
		t.Fatal("the test's great terms are not as they should be")
	}
	row := "[" + strings.Repeat("b,", 28) + "b]"
	hold(t, ops, x, "["+strings.Repeat(row+",", 32)+row+"|"+strings.Repeat("f(", 19)+"a"+strings.Repeat(")", 19)+"]")
}

func TestLongTexts(t *testing.T) {
	for _, ops := range []op.Table{op.Plain(), {}} {
		for n := api.MaxText - 3; n <= api.MaxText; n++ {
			x := long(n)
			s, e := write.Term(ops, x)
			p, f := write.Plain(x)
			if len(s) != n || e != api.OK || p != s || f != api.OK {
				t.Errorf("P9.1: of %d bytes: %d, %d and %d, %d", n, len(s), e, len(p), f)
			}
			holdRead(t, ops, x, s)
		}
		for n := api.MaxText + 1; n < api.MaxText+20; n++ {
			holdNone(t, "one of "+strconv.Itoa(n)+" bytes", ops, long(n), api.EOVER)
		}
		holdNone(t, "a very long one", ops, term.Comp("f", slices.Repeat([]term.Term{long(4122)}, 8)...), api.EOVER)
		holdNone(t, "one with quotes", ops, term.Comp("f", slices.Repeat([]term.Term{term.Comp("g", slices.Repeat([]term.Term{term.Atom(strings.Repeat("\n", 64))}, 4)...)}, 8)...), api.EOVER)
	}
	// One of 62 names of 64 bytes as a list: it has room with operators, but not without.
	most := strings.Repeat("a", api.MaxAtom)
	names := slices.Repeat([]term.Term{term.Atom(most)}, 62)
	hold(t, op.Plain(), term.List(names, term.Atom("[]")), "["+strings.Repeat(most+",", 61)+most+"]")
	hold(t, op.Plain(), term.List(names, term.Atom(most)), "["+strings.Repeat(most+",", 61)+most+"|"+most+"]")
	if s, e := write.Plain(term.List(names, term.Atom("[]"))); s != "" || e != api.EOVER {
		t.Errorf("P9.1: Plain of a long list: %d bytes, %d", len(s), e)
	}
	names[7] = term.Atom("A" + most[:62])
	holdNone(t, "a list one byte too long", op.Plain(), term.List(names, term.Atom(most)), api.EOVER)
}

func TestArgumentsStayAsTheyWere(t *testing.T) {
	spare := func(l ...term.Term) []term.Term {
		return append(l, term.Atom("spare"), term.Atom("spare"))[:len(l)]
	}
	make1 := func() term.Term {
		x := term.Term{Kind: 2, Name: "-", Args: spare(term.Var(4))}
		y := term.Term{Kind: 2, Name: ".", Args: spare(x, term.Var(2))}
		return term.Term{Kind: 2, Name: "+", Args: spare(y, term.Term{Kind: 2, Name: ",", Args: spare(x, y)})}
	}
	x, held := make1(), make1()
	ops := op.Plain()
	for range 3 {
		hold(t, ops, x, "[- _0|_1] + (- _0,[- _0|_1])")
		holdPlain(t, x, "+('.'(-(_0),_1),','(-(_0),'.'(-(_0),_1)))")
	}
	if !slices.Equal(ops.L, op.Plain().L) {
		t.Errorf("R4: the table: %v", ops)
	}
	if !term.Same(x, held) || !sameRoom(x, held) {
		t.Error("R4: the term is not as it was")
	}
}

// sameRoom tells whether two terms are the same, their spare room too.
func sameRoom(a, b term.Term) bool {
	return term.Same(a, b) && slices.EqualFunc(a.Args[:cap(a.Args)], b.Args[:cap(b.Args)], sameRoom)
}
