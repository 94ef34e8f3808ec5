package term_test

import (
	"math"
	"reflect"
	"slices"
	"strings"
	"testing"

	"sizar/api"
	"sizar/term"
)

const (
	firstVar = 0
	lastVar  = math.MaxInt32
)

// f makes a term of others.
func f(args ...term.Term) term.Term { return term.Comp("f", args...) }

// chain makes a term so deep, and as great.
func chain(deep int) term.Term {
	t := term.Atom("a")
	for range deep - 1 {
		t = f(t)
	}
	return t
}

// great makes a term of so many that is not deeper than 6.
func great(count int) term.Term {
	if count == 1 {
		return term.Int(7)
	}
	var args []term.Term
	for left := count - 1; left > 0; {
		// No Arg is greater than the eighth part of what is left, so that eight of them hold it all.
		n := (left + api.MaxArity - len(args) - 1) / (api.MaxArity - len(args))
		args = append(args, great(n))
		left -= n
	}
	return f(args...)
}

// shared makes a term so deep of which each has the same one twice: so that there are 2^deep ways and more.
func shared(deep int) term.Term {
	t := term.Var(0)
	for range deep - 1 {
		t = f(t, t)
	}
	return t
}

// endless makes a term that has itself among its Args.
func endless() term.Term {
	args := []term.Term{term.Int(1), term.Atom("a"), term.Var(0)}
	args[1] = term.Term{Kind: 2, Name: "f", Args: args}
	return args[1]
}

// over writes over the fields of terms, spare room too.
func over(l []term.Term) {
	l = l[:cap(l)]
	for i := range l {
		l[i] = term.Term{Kind: 9, N: 9, Name: "over"}
	}
}

// equal tells whether two are alike, nil and an empty list one.
func equal(a, b term.Term) bool {
	return a.Kind == b.Kind && a.N == b.N && a.Name == b.Name && slices.EqualFunc(a.Args, b.Args, equal)
}

// holdTerm holds a term that was answered against the one that it should be.
func holdTerm(t *testing.T, call string, got, want term.Term) {
	t.Helper()
	if !equal(got, want) {
		t.Errorf("P7.1: %s: %v, not %v", call, got, want)
	}
}

// holdGood holds what is told of a term that may be: all, as it is told of itself.
func holdGood(t *testing.T, what string, x term.Term) {
	t.Helper()
	if !term.Good(x) || !term.Same(x, x) {
		t.Errorf("P7.1: %s: Good %v, Same as itself %v", what, term.Good(x), term.Same(x, x))
	}
	l, tail := term.Items(x)
	if !equal(term.List(l, tail), x) {
		t.Errorf("P7.1: %s: Items %v, %v", what, l, tail)
	}
}

// holdBad holds what is told of a term that may not be: nothing, false, nothing and it.
func holdBad(t *testing.T, what string, x term.Term) {
	t.Helper()
	if term.Good(x) {
		t.Errorf("P7.1: %s: Good", what)
	}
	if l := term.Vars(x); len(l) != 0 {
		t.Errorf("P7.1: %s: Vars %v", what, l)
	}
	a := term.Atom("a")
	if term.Same(x, x) || term.Same(x, a) || term.Same(a, x) {
		t.Errorf("P7.1: %s: Same: %v, %v, %v", what, term.Same(x, x), term.Same(x, a), term.Same(a, x))
	}
	l, tail := term.Items(x)
	// The list within may be endless: so the tail is held against it by where that is.
	alike := tail.Kind == x.Kind && tail.N == x.N && tail.Name == x.Name && len(tail.Args) == len(x.Args) && (len(x.Args) == 0 || &tail.Args[0] == &x.Args[0])
	if len(l) != 0 || !alike {
		t.Errorf("P7.1: %s: Items: %d and another", what, len(l))
	}
}

// holdWithin holds a term that may be, or may not, as an Arg at each place, and in a list.
func holdWithin(t *testing.T, what string, x term.Term, hold func(*testing.T, string, term.Term)) {
	t.Helper()
	hold(t, what, x)
	hold(t, what+", within", f(x))
	for place := range api.MaxArity {
		args := slices.Repeat([]term.Term{term.Int(3)}, api.MaxArity)
		args[place] = x
		hold(t, what+", at a place", term.Comp("+", f(args...), term.Var(1)))
	}
	hold(t, what+", an item", term.List([]term.Term{term.Int(1), x, term.Int(2)}, term.Atom("[]")))
	hold(t, what+", a tail", term.List([]term.Term{term.Int(1)}, x))
}

// holdMeasures holds what Size and Depth answer against what they should.
func holdMeasures(t *testing.T, what string, x term.Term, size, depth int) {
	t.Helper()
	if got := term.Size(x); got != size {
		t.Errorf("P7.1: Size of %s: %d, not %d", what, got, size)
	}
	if got := term.Depth(x); got != depth {
		t.Errorf("P7.1: Depth of %s: %d, not %d", what, got, depth)
	}
}

// holdVars holds what Vars answers against what it should.
func holdVars(t *testing.T, x term.Term, want ...int64) {
	t.Helper()
	if got := term.Vars(x); !slices.Equal(got, want) {
		t.Errorf("P7.1: Vars(%v): %v, not %v", x, got, want)
	}
}

// holdSame holds what Same answers, either way, against what it should.
func holdSame(t *testing.T, a, b term.Term, want bool) {
	t.Helper()
	if term.Same(a, b) != want || term.Same(b, a) != want {
		t.Errorf("P7.1: Same(%v, %v): %v, and the other way %v", a, b, term.Same(a, b), term.Same(b, a))
	}
}

// holdItems holds what Items answers against what it should, and makes the list of that anew.
func holdItems(t *testing.T, x term.Term, tail term.Term, want ...term.Term) {
	t.Helper()
	l, end := term.Items(x)
	if !slices.EqualFunc(l, want, equal) || !equal(end, tail) {
		t.Errorf("P7.1: Items(%v): %v, %v; not %v, %v", x, l, end, want, tail)
	}
	holdTerm(t, "List", term.List(want, tail), x)
}

func TestTheExample(t *testing.T) {
	holdMeasures(t, "f(X, g(1))", f(term.Var(0), term.Comp("g", term.Int(1))), 4, 3)
}

func TestTheMakers(t *testing.T) {
	for _, n := range []int64{0, 1, -1, 7, lastVar, lastVar + 1, math.MaxInt64, math.MinInt64} {
		holdTerm(t, "Var", term.Var(n), term.Term{Kind: 0, N: n})
		holdTerm(t, "Int", term.Int(n), term.Term{Kind: 1, N: n})
	}
	for _, name := range []string{"", "a", "X", "[]", ".", "a b", "\x00", "é", strings.Repeat("a", 65)} {
		holdTerm(t, "Atom", term.Atom(name), term.Term{Kind: 2, Name: name})
		holdTerm(t, "Comp", term.Comp(name), term.Term{Kind: 2, Name: name})
		holdTerm(t, "Comp", term.Comp(name, []term.Term{}...), term.Term{Kind: 2, Name: name})
		some := []term.Term{term.Var(-1), term.Int(2), term.Atom(name), {Kind: 5, N: 3}}
		holdTerm(t, "Comp", term.Comp(name, some...), term.Term{Kind: 2, Name: name, Args: some})
	}
	many := slices.Repeat([]term.Term{term.Int(4)}, 3000)
	holdTerm(t, "Comp", f(many...), term.Term{Kind: 2, Name: "f", Args: many})
}

func TestGoodOfVariables(t *testing.T) {
	for _, n := range []int64{firstVar, 1, 2, 1 << 16, lastVar - 1, lastVar} {
		holdWithin(t, "a variable", term.Var(n), holdGood)
		holdGood(t, "a variable of empty Args", term.Term{N: n, Args: []term.Term{}})
	}
	for _, n := range []int64{firstVar - 1, -2, lastVar + 1, 1 << 32, 1<<32 + 1, math.MaxInt64, math.MinInt64, math.MinInt32} {
		holdWithin(t, "a variable of no such number", term.Var(n), holdBad)
	}
	holdWithin(t, "a variable with a name", term.Term{Name: "a"}, holdBad)
	holdWithin(t, "a variable with an Arg", term.Term{Args: []term.Term{{}}}, holdBad)
	holdWithin(t, "a list's variable", term.Term{Name: ".", Args: []term.Term{{}, {}}}, holdBad)
}

func TestGoodOfNumbers(t *testing.T) {
	for _, n := range []int64{0, 1, -1, lastVar, lastVar + 1, math.MaxInt64, math.MinInt64} {
		holdWithin(t, "a number", term.Int(n), holdGood)
		holdGood(t, "a number of empty Args", term.Term{Kind: 1, N: n, Args: []term.Term{}})
		holdWithin(t, "a number with a name", term.Term{Kind: 1, N: n, Name: "a"}, holdBad)
		holdWithin(t, "a number with an Arg", term.Term{Kind: 1, N: n, Args: []term.Term{{}}}, holdBad)
	}
	holdWithin(t, "a list's number", term.Term{Kind: 1, Name: ".", Args: []term.Term{{}, {}}}, holdBad)
}

func TestGoodOfNames(t *testing.T) {
	for _, n := range []int64{1, -1, math.MinInt64} {
		holdWithin(t, "an atom with a number", term.Term{Kind: 2, N: n, Name: "a"}, holdBad)
		holdWithin(t, "a name with Args and a number", term.Term{Kind: 2, N: n, Name: "a", Args: []term.Term{{}}}, holdBad)
	}
	for _, kind := range []int{-1, 3, 4, 256, 257, 258, math.MaxInt, math.MinInt} {
		holdWithin(t, "no kind", term.Term{Kind: kind}, holdBad)
		holdWithin(t, "no kind with a name", term.Term{Kind: kind, Name: "a", Args: []term.Term{{}}}, holdBad)
	}
	for c := range 256 {
		hold := holdBad
		if 32 <= c && c <= 126 || c == 9 || c == 10 {
			hold = holdGood
		}
		b := string([]byte{byte(c)})
		for _, name := range []string{b, "a" + b, b + "a", b + b, strings.Repeat("a", api.MaxAtom-1) + b} {
			holdWithin(t, "an atom of the byte "+b, term.Atom(name), hold)
			hold(t, "a name of the byte "+b, term.Comp(name, term.Var(3)))
		}
	}
	for _, b := range []string{"a", " ", "'", "\n", "~"} {
		for _, long := range []int{0, 1, api.MaxAtom - 1, api.MaxAtom} {
			holdWithin(t, "an atom", term.Atom(strings.Repeat(b, long)), holdGood)
			holdGood(t, "a name", term.Comp(strings.Repeat(b, long), term.Int(1)))
		}
		for _, long := range []int{api.MaxAtom + 1, api.MaxAtom + 2, 256, 257, 70000} {
			holdWithin(t, "a long atom", term.Atom(strings.Repeat(b, long)), holdBad)
			holdBad(t, "a long name", term.Comp(strings.Repeat(b, long), term.Int(1)))
		}
	}
}

func TestGoodOfManyArgs(t *testing.T) {
	args := slices.Repeat([]term.Term{term.Int(4)}, 300)
	for _, many := range []int{0, 1, 2, api.MaxArity - 1, api.MaxArity} {
		holdWithin(t, "few Args", f(args[:many]...), holdGood)
		holdWithin(t, "few Args of a list", term.Comp(".", args[:many]...), holdGood)
	}
	for _, many := range []int{api.MaxArity + 1, api.MaxArity + 2, 256, 258, 300} {
		holdWithin(t, "many Args", f(args[:many]...), holdBad)
		holdWithin(t, "many Args of a list", term.Comp(".", args[:many]...), holdBad)
	}
}

func TestSizes(t *testing.T) {
	holdMeasures(t, "a variable", term.Var(9), 1, 1)
	holdMeasures(t, "a number", term.Int(9), 1, 1)
	holdMeasures(t, "an atom", term.Atom("a"), 1, 1)
	holdMeasures(t, "no Args", f(), 1, 1)
	holdMeasures(t, "a list", term.List([]term.Term{term.Int(1), f(term.Var(0))}, term.Atom("[]")), 6, 4)
	holdMeasures(t, "its second Arg the deepest", f(chain(3), chain(5), chain(2)), 11, 6)
	holdMeasures(t, "its last Arg the deepest", f(chain(3), chain(2), chain(9)), 15, 10)
	for _, n := range []int{1, 2, 3, 9, 10, 73, 500, api.MaxCells - 1, api.MaxCells} {
		x := great(n)
		if got := term.Size(x); got != n {
			t.Errorf("P7.1: Size of %d: %d", n, got)
		}
		holdGood(t, "of no great size", x)
	}
	for _, n := range []int{api.MaxCells + 1, api.MaxCells + 2, 3000, 100000} {
		x := great(n)
		if got := term.Size(x); got != api.MaxCells+1 {
			t.Errorf("P7.1: Size of %d: %d", n, got)
		}
		holdBad(t, "of great size", x)
		holdBad(t, "of great size, within", f(x))
	}
	holdGood(t, "two halves", f(great(1000), great(999)))
	holdBad(t, "two halves and one more", f(great(1000), great(1000)))
	wide := f(slices.Repeat([]term.Term{term.Int(4)}, 1<<20)...)
	holdMeasures(t, "wide", wide, 2001, 2)
	holdMeasures(t, "wide, within", f(term.Int(1), wide, chain(4)), 2001, 5)
	holdBad(t, "wide", wide)
}

func TestDepths(t *testing.T) {
	for _, n := range []int{1, 2, 3, 32, api.MaxDepth - 1, api.MaxDepth} {
		holdMeasures(t, "a chain", chain(n), n, n)
		holdGood(t, "a chain", chain(n))
	}
	holdMeasures(t, "a deep chain", chain(65), 65, 65)
	for _, n := range []int{66, 67, 130, 256 + 3, 1999, 2000} {
		holdMeasures(t, "a deep chain", chain(n), n, 65)
		holdBad(t, "a deep chain", chain(n))
	}
	for _, n := range []int{2001, 2002, 1 << 16} {
		holdMeasures(t, "a very deep chain", chain(n), 2001, 65)
		holdBad(t, "a very deep chain", chain(n))
	}
	for place := range api.MaxArity {
		args := slices.Repeat([]term.Term{term.Int(4)}, api.MaxArity)
		args[place] = chain(63)
		holdMeasures(t, "deep at a place", f(args...), 71, 64)
		holdGood(t, "deep at a place", f(args...))
		args[place] = chain(64)
		holdMeasures(t, "too deep at a place", f(args...), 72, 65)
		holdBad(t, "too deep at a place", f(args...))
	}
	items := slices.Repeat([]term.Term{term.Int(4)}, 64)
	holdMeasures(t, "a list of 63", term.List(items[:63], term.Atom("[]")), 127, 64)
	holdGood(t, "a list of 63", term.List(items[:63], term.Atom("[]")))
	holdMeasures(t, "a list of 64", term.List(items, term.Atom("[]")), 129, 65)
	holdBad(t, "a list of 64", term.List(items, term.Atom("[]")))
}

// What is shared counts as often as it stands there.
func TestMeasuresOfWhatIsShared(t *testing.T) {
	for deep := 1; deep <= 10; deep++ {
		holdMeasures(t, "what is shared", shared(deep), 1<<deep-1, deep)
		holdGood(t, "what is shared", shared(deep))
		holdVars(t, shared(deep), 0)
	}
	for _, deep := range []int{11, 12, 30, 63, 64} {
		holdMeasures(t, "what is shared", shared(deep), 2001, deep)
		holdBad(t, "what is shared", shared(deep))
	}
	for _, deep := range []int{65, 66, 100, 1000} {
		holdMeasures(t, "what is shared", shared(deep), 2001, 65)
		holdBad(t, "what is shared", shared(deep))
	}
	x := shared(50)
	holdMeasures(t, "shared at two depths", f(x, f(f(f(x)), x)), 2001, 54)
	holdMeasures(t, "shared at two depths, the deeper first", f(f(f(f(x)), x), x), 2001, 54)
	holdMeasures(t, "shared at the greatest depth", f(x, chain(3), f(f(f(f(f(f(f(f(f(f(f(f(f(x)))))))))))))), 2001, 64)
	holdMeasures(t, "shared below the greatest depth", f(x, chain(3), f(f(f(f(f(f(f(f(f(f(f(f(f(f(x))))))))))))))), 2001, 65)
	y := x
	for range 30 {
		y = f(y)
	}
	holdMeasures(t, "shared far below the greatest depth", f(x, y), 2001, 65)
	holdMeasures(t, "shared far below the greatest depth, the deeper first", f(y, x), 2001, 65)
	args := []term.Term{term.Int(1), chain(5), chain(9)}
	front := term.Term{Kind: 2, Name: "f", Args: args[:2]}
	whole := term.Term{Kind: 2, Name: "f", Args: args}
	holdMeasures(t, "shared in part", f(front, whole), 24, 11)
	holdMeasures(t, "shared in part, the whole first", f(whole, f(front)), 25, 11)
	holdMeasures(t, "shared in part, behind", term.Term{Kind: 2, Name: "f", Args: args[:1]}, 2, 2)
}

// Each call ends, of what has itself within it, too.
func TestMeasuresOfWhatIsEndless(t *testing.T) {
	x := endless()
	holdMeasures(t, "what has itself", x, 2001, 65)
	holdMeasures(t, "what has what has itself", f(chain(5), x, chain(70)), 2001, 65)
	holdBad(t, "what has itself", x)
	holdBad(t, "what has what has itself", f(chain(5), x))
	list := []term.Term{term.Int(1), term.Int(2)}
	list[1] = term.Term{Kind: 2, Name: ".", Args: list}
	holdBad(t, "a list without an end", list[1])
	args := make([]term.Term, api.MaxArity)
	for i := range args {
		args[i] = term.Term{Kind: 2, Name: "f", Args: args}
	}
	holdMeasures(t, "what has itself at each place", args[0], 2001, 65)
	holdBad(t, "what has itself at each place", args[0])
}

func TestMeasuresOfWhatMayNotBe(t *testing.T) {
	args := []term.Term{{Kind: 7}, {N: -1, Args: []term.Term{{Kind: 1, Name: "\x00"}}}}
	holdMeasures(t, "no kind", term.Term{Kind: -3, N: 5, Name: "\xff"}, 1, 1)
	for _, kind := range []int{-1, 0, 1, 2, 3} {
		holdMeasures(t, "any kind", term.Term{Kind: kind, N: 3, Name: "a", Args: args}, 4, 3)
	}
}

func TestVars(t *testing.T) {
	v := term.Var
	holdVars(t, v(4), 4)
	holdVars(t, term.Int(4))
	holdVars(t, term.Atom("X"))
	holdVars(t, f(term.Int(1), term.Atom("a"), f()))
	holdVars(t, f(v(9), term.Comp("g", v(3), v(9)), term.Int(5), v(0), v(3)), 9, 3, 0)
	holdVars(t, f(v(1), v(1), v(1)), 1)
	holdVars(t, f(f(f(v(lastVar)), v(firstVar)), v(5), f(v(lastVar), v(6))), lastVar, 0, 5, 6)
	holdVars(t, f(term.Int(3), v(3), term.Int(2), v(2)), 3, 2)
	holdVars(t, term.List([]term.Term{v(5), v(4), v(5)}, v(3)), 5, 4, 3)
	var l []term.Term
	want := []int64{500}
	for i := range int64(24) {
		// The first one stood in the row ahead already.
		l = append(l, f(v(500-i), v(i), v(500-i), v(1000+i), v(499-i), v(i)))
		want = append(want, i, 1000+i, 499-i)
	}
	holdVars(t, f(f(l[:8]...), f(l[8:16]...), f(l[16:]...)), want...)
}

func TestSame(t *testing.T) {
	some := []term.Term{
		term.Var(0), term.Var(1), term.Var(lastVar), term.Int(0), term.Int(1), term.Int(-1), term.Int(1 << 32), term.Int(lastVar), term.Atom(""), term.Atom("a"), term.Atom("b"), term.Atom("A"), term.Atom("ab"), term.Atom("f"), term.Atom("0"),
		term.Atom("[]"), term.Atom("."), f(term.Var(0)), f(term.Var(1)), f(term.Int(0)), f(term.Int(1)), f(term.Atom("a")), f(term.Atom("b")), term.Comp("g", term.Atom("a")), term.Comp("", term.Atom("a")),
		f(term.Atom("a"), term.Atom("b")), f(term.Atom("b"), term.Atom("a")), f(term.Atom("a"), term.Atom("a")), f(term.Atom("a"), term.Atom("b"), term.Atom("b")), f(f(term.Atom("a"))), f(f(term.Atom("b"))),
		f(f(term.Atom("a")), term.Int(1)), f(f(term.Atom("a")), term.Int(2)), f(f(term.Atom("a"), term.Int(1))), term.List([]term.Term{term.Int(1), term.Int(2)}, term.Atom("[]")),
		term.List([]term.Term{term.Int(1), term.Int(2)}, term.Var(0)), term.List([]term.Term{term.Int(1), term.Int(3)}, term.Atom("[]")), term.List([]term.Term{term.List([]term.Term{term.Int(1)}, term.Int(2))}, term.Atom("[]")), chain(63), chain(64), great(1999), great(2000),
	}
	for i, a := range some {
		for k, b := range some {
			holdSame(t, a, b, i == k)
		}
	}
	holdSame(t, f(), term.Atom("f"), true)
	holdSame(t, term.Term{Kind: 1, Args: []term.Term{}}, term.Int(0), true)
	holdSame(t, term.Term{Args: []term.Term{}}, term.Term{}, true)
	holdSame(t, great(2000), great(2000), true)
	holdSame(t, chain(64), chain(64), true)
	holdSame(t, great(2001), great(2001), false)
	holdSame(t, chain(65), chain(65), false)
	holdSame(t, f(term.Var(0), term.Var(0)), f(term.Var(0), term.Var(1)), false)
	holdSame(t, f(term.Var(0), term.Var(1)), f(term.Var(1), term.Var(0)), false)
}

func TestLists(t *testing.T) {
	empty := term.Atom("[]")
	one, two, three := term.Int(1), term.Var(2), f(term.Atom("c"))
	holdItems(t, empty, empty)
	holdItems(t, term.Comp(".", one, empty), empty, one)
	holdItems(t, term.Comp(".", one, term.Comp(".", two, term.Comp(".", three, empty))), empty, one, two, three)
	holdItems(t, term.Comp(".", one, term.Comp(".", one, empty)), empty, one, one)
	holdItems(t, term.Comp(".", empty, empty), empty, empty)
	inner := term.Comp(".", one, term.Comp(".", two, empty))
	holdItems(t, term.Comp(".", inner, term.Comp(".", inner, empty)), empty, inner, inner)
	for _, tail := range []term.Term{
		term.Var(0), term.Int(0), term.Atom("a"), term.Atom("."), term.Atom(""), term.Atom("{}"), f(one), f(one, empty), term.Comp("[]", one, two), term.Comp("..", one, empty), term.Comp("'.'", one, empty),
		term.Comp(".", one), term.Comp(".", one, two, empty), term.Comp(".", one, two, three, empty), f(term.Comp(".", one, empty), empty), term.Comp("[|]", one, empty),
	} {
		holdItems(t, tail, tail)
		holdItems(t, term.Comp(".", one, tail), tail, one)
		holdItems(t, term.Comp(".", two, term.Comp(".", tail, tail)), tail, two, tail)
	}
	holdItems(t, term.List(slices.Repeat([]term.Term{three}, 62), empty), empty, slices.Repeat([]term.Term{three}, 62)...)
}

// List takes any items and any tail: what cannot be is a list too.
func TestListOfWhatMayNotBe(t *testing.T) {
	wrong := term.Term{Kind: 5, N: 2, Name: "\x00"}
	holdTerm(t, "List", term.List(nil, wrong), wrong)
	holdTerm(t, "List", term.List([]term.Term{wrong, {N: -1}}, wrong), term.Comp(".", wrong, term.Comp(".", term.Var(-1), wrong)))
	x := term.List(slices.Repeat([]term.Term{wrong}, 30000), term.Int(4))
	for i := range 30000 {
		if x.Kind != 2 || x.N != 0 || x.Name != "." || len(x.Args) != 2 || !equal(x.Args[0], wrong) {
			t.Fatalf("P7.1: List of many: at %d there is one of %d", i, len(x.Args))
		}
		x = x.Args[1]
	}
	holdTerm(t, "List", x, term.Int(4))
}

func TestWhatIsHandedInIsNotKept(t *testing.T) {
	room := []term.Term{term.Int(1), term.Var(2), term.Atom("c"), term.Atom("d"), term.Atom("e")}
	held := slices.Clone(room)
	x, y := f(room[:3]...), term.List(room[:3], term.Atom("[]"))
	if !slices.EqualFunc(room, held, equal) {
		t.Errorf("R4: Comp and List leave %v", room)
	}
	over(room)
	holdTerm(t, "Comp", x, f(held[:3]...))
	holdTerm(t, "List", y, term.Comp(".", held[0], term.Comp(".", held[1], term.Comp(".", held[2], term.Atom("[]")))))
	room = slices.Clone(held)
	z := f(room[:3]...)
	over(z.Args)
	if !slices.EqualFunc(room, held, equal) {
		t.Errorf("R4: Comp shares what it was handed in: %v", room)
	}
}

func TestAnswersAreNewMemory(t *testing.T) {
	x := term.List([]term.Term{term.Var(5), f(term.Var(6)), term.Var(5)}, term.Var(7))
	held := term.List([]term.Term{term.Var(5), f(term.Var(6)), term.Var(5)}, term.Var(7))
	vars := term.Vars(x)
	for i := range vars[:cap(vars)] {
		vars[:cap(vars)][i] = -9
	}
	holdVars(t, x, 5, 6, 7)
	l, _ := term.Items(x)
	over(l)
	holdTerm(t, "Items", x, held)
	a := term.List([]term.Term{term.Int(1), term.Int(2)}, term.Int(3))
	over(a.Args[1].Args)
	if len(a.Args) != 2 || !equal(a.Args[0], term.Int(1)) {
		t.Errorf("R4: two Args of one List share memory: %v", a)
	}
}

func TestNoCallChangesATerm(t *testing.T) {
	room := append(make([]term.Term, 0, 9), term.Var(3), f(term.Int(4), term.Var(2)), term.Term{Kind: 2, Name: "[]", Args: []term.Term{}})
	for _, x := range []term.Term{{Kind: 2, Name: "f", Args: room}, {Kind: 2, Name: ".", Args: room[:2]}, {Kind: 4, Name: "f", Args: room}} {
		held := slices.Clone(room[:9])
		for range 2 {
			term.Good(x)
			term.Size(x)
			term.Depth(x)
			term.Vars(x)
			term.Same(x, x)
			term.Items(x)
			term.List(x.Args, x)
			term.Comp("g", x.Args...)
		}
		if !reflect.DeepEqual(room[:9], held) {
			t.Errorf("R4: what was handed in is %v, not %v", room[:9], held)
		}
	}
}

// dice tells numbers that are the same each time.
type dice uint32

func (d *dice) roll(n int) int {
	*d = *d*1664525 + 1013904223
	return int(*d>>16) % n
}

// pick tells one of some.
func pick[T any](d *dice, some ...T) T { return some[d.roll(len(some))] }

// any makes a term, seldom one that may not be, at most so deep.
func (d *dice) any(deep int) term.Term {
	switch kind := d.roll(8); {
	case d.roll(150) == 0:
		return pick(d, term.Var(-1), term.Var(1<<31), term.Atom("\r"), term.Atom(strings.Repeat("b", 65)), term.Term{Kind: 3}, term.Term{Kind: 1, Name: "a"}, f(make([]term.Term, 9)...), term.Term{Kind: 2, N: 1})
	case kind == 0:
		return term.Var(int64(d.roll(12)))
	case kind == 1:
		return term.Int(int64(d.roll(5) - 2))
	case kind == 2 || deep <= 1:
		return term.Atom(pick(d, "a", "b", "[]", "."))
	case kind < 5:
		return term.Comp(".", d.any(deep-1), d.any(deep-1))
	}
	args := make([]term.Term, d.roll(6))
	for i := range args {
		args[i] = d.any(deep - 1)
	}
	return term.Comp(pick(d, "f", "g", ".", "[]"), args...)
}

// seen is what a slow walk over a term, all of it, tells.
type seen struct {
	size, depth int
	good        bool
	vars        []int64
}

func (s *seen) walk(t term.Term, level int) {
	s.size++
	s.depth = max(s.depth, level)
	plain := t.Name == "" && len(t.Args) == 0
	switch t.Kind {
	case 0:
		s.good = s.good && plain && t.N >= 0 && t.N < 1<<31
		s.vars = append(s.vars, t.N)
	case 1:
		s.good = s.good && plain
	case 2:
		s.good = s.good && t.N == 0 && len(t.Name) <= 64 && len(t.Args) <= 8 && !strings.ContainsFunc(t.Name, func(r rune) bool { return !strings.ContainsRune("\t\n", r) && (r < ' ' || r > '~') })
	default:
		s.good = false
	}
	for _, a := range t.Args {
		s.walk(a, level+1)
	}
}

// once leaves of equal ones the first.
func once(l []int64) []int64 {
	var some []int64
	for i, n := range l {
		if slices.Index(l, n) == i {
			some = append(some, n)
		}
	}
	return some
}

func TestManyTermsAgainstASlowWalk(t *testing.T) {
	d := dice(3)
	var good, bad, great, alike, lists int
	for range 6000 {
		x := d.any(pick(&d, 2, 4, 6, 9, 12, 18))
		s := seen{good: true}
		s.walk(x, 1)
		holdMeasures(t, "any", x, min(s.size, 2001), min(s.depth, 65))
		if s.size > 2000 {
			great++
		}
		if !s.good || s.size > 2000 || s.depth > 64 {
			bad++
			holdBad(t, "any", x)
			continue
		}
		good++
		holdGood(t, "any", x)
		holdVars(t, x, once(s.vars)...)
		if l, _ := term.Items(x); len(l) > 1 {
			lists++
		}
		y := d.any(2)
		if equal(x, y) {
			alike++
		}
		holdSame(t, x, y, term.Good(y) && equal(x, y))
	}
	if good < 2000 || bad < 200 || great < 20 || alike < 20 || lists < 200 {
		t.Errorf("of the terms %d are good, %d bad, %d great, %d alike, %d lists", good, bad, great, alike, lists)
	}
}
