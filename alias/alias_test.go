package alias_test

import (
	"fmt"
	"math"
	"slices"
	"strings"
	"testing"

	"sizar/alias"
	"sizar/api"
	"sizar/term"
)

const lastVar = math.MaxInt32

// mostVars is how many variables a term may have: beneath them stand 219, 28, 4 and 1 names.
const mostVars = 1748

// v, n, at, f and g make terms: a variable, a number, an atom, and names with Args.
func v(number int64) term.Term { return term.Var(number) }

func n(number int64) term.Term { return term.Int(number) }

func at(name string) term.Term { return term.Atom(name) }

func f(args ...term.Term) term.Term { return term.Comp("f", args...) }

func g(args ...term.Term) term.Term { return term.Comp("g", args...) }

// list makes a whole list.
func list(l ...term.Term) term.Term { return term.List(l, at("[]")) }

// chain makes a term so deep with one at its end.
func chain(deep int, last term.Term) term.Term {
	for range deep - 1 {
		last = f(last)
	}
	return last
}

// row makes a term of so many, not deeper than 6, with such ones at all its ends, but for the last one from the left.
func row(count int, all, last term.Term) term.Term {
	if count == 1 {
		return last
	}
	rest := count - 1
	args := make([]term.Term, min(rest, api.MaxArity))
	for i := range args {
		share := (rest + len(args) - 1 - i) / (len(args) - i)
		rest -= share
		args[i] = row(share, all, all)
		if i == len(args)-1 {
			args[i] = row(share, all, last)
		}
	}
	return f(args...)
}

// vars makes a term of so many variables, the first one of a number, and each a step from the one ahead of it.
func vars(count int, first, step int64) term.Term {
	var l []term.Term
	for i := range int64(count) {
		l = append(l, v(first+step*i))
	}
	for len(l) > 1 {
		var up []term.Term
		for some := range slices.Chunk(l, api.MaxArity) {
			up = append(up, f(some...))
		}
		l = up
	}
	return l[0]
}

// bad are terms that may not be.
func bad() []term.Term {
	endless := []term.Term{n(1), at("a"), v(0)}
	endless[1] = term.Term{Kind: 2, Name: "f", Args: endless}
	twice := v(0)
	for range 60 {
		twice = f(twice, twice)
	}
	l := []term.Term{
		{Kind: -1}, {Kind: 3}, {Kind: 3, Args: endless}, {Name: "a"}, {Args: []term.Term{v(0)}}, v(-1), v(math.MinInt64), v(math.MaxInt64), v(1 << 31), v(1 << 32),
		{Kind: 1, Name: "a"}, {Kind: 1, Args: []term.Term{n(1)}}, {Kind: 2, N: 1, Name: "a"}, {Kind: 2, N: 1, Name: "f", Args: []term.Term{v(0)}},
		at("\x00"), at("\xff"), at(strings.Repeat("a", api.MaxAtom+1)), term.Comp("\r", v(0)), f(slices.Repeat([]term.Term{n(1)}, api.MaxArity+1)...),
		chain(api.MaxDepth+1, v(0)), chain(api.MaxDepth+1, n(1)), row(api.MaxCells+1, v(0), v(1)), row(api.MaxCells+1, n(1), n(1)), endless[1], twice,
	}
	for _, x := range slices.Clone(l) {
		l = append(l, f(x), f(v(0), g(n(1), x)), list(x), term.List([]term.Term{v(0)}, x))
	}
	return l
}

// equal tells whether two are alike, nil and an empty list one.
func equal(a, b term.Term) bool {
	return a.Kind == b.Kind && a.N == b.N && a.Name == b.Name && slices.EqualFunc(a.Args, b.Args, equal)
}

// copied makes a term anew that shares nothing with it.
func copied(x term.Term) term.Term {
	x.Args = slices.Clone(x.Args)
	for i, a := range x.Args {
		x.Args[i] = copied(a)
	}
	return x
}

// over writes over all that a term has within, spare room too.
func over(x term.Term) {
	for _, a := range x.Args {
		over(a)
	}
	l := x.Args[:cap(x.Args)]
	for i := range l {
		l[i] = term.Term{Kind: 9, N: 9, Name: "over"}
	}
}

// show tells a term, a great one not to its end.
func show(x term.Term) string {
	text := fmt.Sprint(x)
	return text[:min(len(text), 200)]
}

// holdFrom holds what From answers of one that may be.
func holdFrom(t *testing.T, x term.Term, first int64, want term.Term, next int64) {
	t.Helper()
	was := copied(x)
	got, behind, e := alias.From(x, first)
	if !equal(got, want) || behind != next || e != api.OK {
		t.Errorf("P13.1: From(%s, %d): %s, %d, %d; not %s, %d", show(x), first, show(got), behind, e, show(want), next)
	}
	if !equal(x, was) {
		t.Errorf("R4: From made %s of %s", show(x), show(was))
	}
}

// holdRefused holds what From answers where it tells an error.
func holdRefused(t *testing.T, what string, x term.Term, first int64, err api.Errno) {
	t.Helper()
	got, next, e := alias.From(x, first)
	if !equal(got, term.Term{}) || next != 0 || e != err {
		t.Errorf("P13.1, R2: From of %s, %d: %s, %d, %d; not %d", what, first, show(got), next, e, err)
	}
}

// holdPlain holds what Plain answers of one that may be, and that From 0 answers it too.
func holdPlain(t *testing.T, x, want term.Term) {
	t.Helper()
	if got, e := alias.Plain(x); !equal(got, want) || e != api.OK {
		t.Errorf("P13.1: Plain(%s): %s, %d; not %s", show(x), show(got), e, show(want))
	}
	holdFrom(t, x, 0, want, int64(len(term.Vars(want))))
}

// holdBoth holds what is answered of two: whether they are alike, whether the first is more than the second, and the second more than the first.
func holdBoth(t *testing.T, what string, x, y term.Term, alike, more, less bool) {
	t.Helper()
	if one, other := alias.Alike(x, y), alias.Alike(y, x); one != alike || other != alike {
		t.Errorf("P13.1: Alike of %s: %v, and the other way round %v, not %v", what, one, other, alike)
	}
	if one, other := alias.More(x, y), alias.More(y, x); one != more || other != less {
		t.Errorf("P13.1: More of %s: %v, not %v; and the other way round %v, not %v", what, one, more, other, less)
	}
}

// holdGround holds what Ground answers.
func holdGround(t *testing.T, what string, x term.Term, want bool) {
	t.Helper()
	if alias.Ground(x) != want {
		t.Errorf("P13.1: Ground of %s is not %v", what, want)
	}
}

func TestTheExample(t *testing.T) {
	holdPlain(t, f(v(7), v(3), v(7)), f(v(0), v(1), v(0)))
}

func TestFrom(t *testing.T) {
	for _, x := range []term.Term{at("a"), at(""), at("[]"), n(0), n(7), n(math.MinInt64), n(math.MaxInt64), f(at("a"), n(1)), f(g(n(0)), g(g(at("X")))), list(n(3), at("b"))} {
		for _, first := range []int64{0, 1, 9, lastVar} {
			holdFrom(t, x, first, x, first)
		}
	}
	holdFrom(t, v(0), 0, v(0), 1)
	holdFrom(t, v(5), 0, v(0), 1)
	holdFrom(t, v(5), 9, v(9), 10)
	holdFrom(t, f(v(3), v(3), v(3)), 9, f(v(9), v(9), v(9)), 10)
	// By where they first stand, from left to right, however deep; not by their numbers.
	holdFrom(t, f(g(g(v(8)), v(2)), v(5), g(v(2))), 4, f(g(g(v(4)), v(5)), v(6), g(v(5))), 7)
	holdFrom(t, f(v(1), g(v(2), g(v(3))), v(4)), 0, f(v(0), g(v(1), g(v(2))), v(3)), 4)
	holdFrom(t, f(v(2), v(1), v(0)), 0, f(v(0), v(1), v(2)), 3)
	// A variable's number is its own alone: a number is not renamed, and a name keeps its own.
	holdFrom(t, f(v(7), n(7), at("7"), at("X7"), at("_7")), 3, f(v(3), n(7), at("7"), at("X7"), at("_7")), 4)
	holdFrom(t, g(term.Comp("", v(1)), term.Comp(":-", v(1), v(2))), 5, g(term.Comp("", v(5)), term.Comp(":-", v(5), v(6))), 7)
	holdFrom(t, term.List([]term.Term{v(6), n(1), v(4)}, v(6)), 1, term.List([]term.Term{v(1), n(1), v(2)}, v(1)), 3)
}

// New numbers may be those that the variables had: none is renamed twice.
func TestFromWhereNumbersAreAlike(t *testing.T) {
	holdPlain(t, f(v(1), v(0)), f(v(0), v(1)))
	holdPlain(t, f(v(1), v(2), v(0)), f(v(0), v(1), v(2)))
	holdPlain(t, f(v(2), v(0), v(1), v(2), v(0)), f(v(0), v(1), v(2), v(0), v(1)))
	holdFrom(t, f(v(0), v(1), v(2)), 1, f(v(1), v(2), v(3)), 4)
	holdFrom(t, f(v(4), v(5), v(6)), 5, f(v(5), v(6), v(7)), 8)
	holdFrom(t, f(v(6), v(5), v(4)), 5, f(v(5), v(6), v(7)), 8)
	holdFrom(t, f(v(3), v(4)), 3, f(v(3), v(4)), 5)
}

func TestFromOfAnyNumbers(t *testing.T) {
	for _, number := range []int64{0, 1, 65535, 65536, lastVar - 1, lastVar} {
		holdFrom(t, v(number), number, v(number), number+1)
		holdFrom(t, f(v(number), v(3), v(number)), 7, f(v(7), v(8), v(7)), 9)
		holdPlain(t, f(v(3), v(number), v(3)), f(v(0), v(1), v(0)))
		holdFrom(t, f(n(1), v(9)), number, f(n(1), v(number)), number+1)
	}
}

func TestFromOfEmptyArgs(t *testing.T) {
	none := []term.Term{}
	holdFrom(t, term.Term{Kind: 2, Name: "a", Args: none}, 1, at("a"), 1)
	holdFrom(t, term.Term{Kind: 1, N: 4, Args: none}, 1, n(4), 1)
	holdFrom(t, term.Term{N: 4, Args: none}, 1, v(1), 2)
	holdBoth(t, "two of empty Args", term.Term{Kind: 2, Name: "a", Args: none}, at("a"), true, true, true)
	holdBoth(t, "a variable of empty Args", term.Term{N: 4, Args: none}, v(1), true, true, true)
}

// At the greatest number all is well; one past it is refused. The next number may be one past it.
func TestFromAtTheGreatestNumber(t *testing.T) {
	holdFrom(t, v(0), lastVar-1, v(lastVar-1), lastVar)
	holdFrom(t, v(0), lastVar, v(lastVar), lastVar+1)
	holdFrom(t, f(v(0), v(0)), lastVar, f(v(lastVar), v(lastVar)), lastVar+1)
	holdFrom(t, f(v(0), v(1)), lastVar-1, f(v(lastVar-1), v(lastVar)), lastVar+1)
	holdFrom(t, f(v(lastVar), v(1)), lastVar-2, f(v(lastVar-2), v(lastVar-1)), lastVar)
	holdRefused(t, "two variables", f(v(0), v(1)), lastVar, api.EOVER)
	holdRefused(t, "two variables, one twice", f(v(lastVar), v(0), v(lastVar)), lastVar, api.EOVER)
	holdRefused(t, "three variables", f(v(0), g(v(1), v(2))), lastVar-1, api.EOVER)
	many := vars(mostVars, 0, 1)
	if term.Size(many) != api.MaxCells || !term.Good(many) {
		t.Fatalf("P7.1: a term of many variables: %d", term.Size(many))
	}
	const first = lastVar - mostVars + 1
	holdFrom(t, many, first, vars(mostVars, first, 1), lastVar+1)
	holdFrom(t, many, first-1, vars(mostVars, first-1, 1), lastVar)
	holdRefused(t, "many variables", many, first+1, api.EOVER)
	holdRefused(t, "many variables", many, lastVar, api.EOVER)
}

func TestFromOfNoSuchFirst(t *testing.T) {
	for _, first := range []int64{-1, -2, math.MinInt32, math.MinInt64, math.MinInt64 + 1, lastVar + 1, lastVar + 2, 1 << 32, 1<<32 + 1, math.MaxInt64 - 1, math.MaxInt64} {
		for _, x := range []term.Term{v(0), n(1), at("a"), f(v(0), v(1)), f(n(1)), list(), {Kind: 3}} {
			holdRefused(t, "a first that may not be", x, first, api.EARG)
		}
	}
}

func TestFromOfWhatMayNotBe(t *testing.T) {
	for _, x := range bad() {
		for _, first := range []int64{-1, 0, 1, lastVar, lastVar + 1} {
			holdRefused(t, "what may not be", x, first, api.EARG)
			// What may not be is told ahead of too great a number.
			holdRefused(t, "what may not be behind two variables", f(v(0), v(1), x), first, api.EARG)
		}
		if got, e := alias.Plain(x); !equal(got, term.Term{}) || e != api.EARG {
			t.Errorf("P13.1, R2: Plain of what may not be: %s, %d", show(got), e)
		}
	}
}

func TestFromAtTheLimits(t *testing.T) {
	many := vars(mostVars, lastVar, -1)
	holdPlain(t, many, vars(mostVars, 0, 1))
	holdFrom(t, vars(mostVars, 0, 1), 1000, vars(mostVars, 1000, 1), 1000+mostVars)
	holdPlain(t, row(api.MaxCells, v(9), v(5)), row(api.MaxCells, v(0), v(1)))
	holdPlain(t, row(api.MaxCells, at("a"), v(5)), row(api.MaxCells, at("a"), v(0)))
	holdPlain(t, chain(api.MaxDepth, v(8)), chain(api.MaxDepth, v(0)))
	wide := slices.Repeat([]term.Term{v(8), v(7)}, api.MaxArity/2)
	holdPlain(t, f(wide...), f(slices.Repeat([]term.Term{v(0), v(1)}, api.MaxArity/2)...))
	long := strings.Repeat("a", api.MaxAtom)
	holdPlain(t, term.Comp(long, v(4), at(long)), term.Comp(long, v(0), at(long)))
	// Each of these has the one within it twice.
	x, want := v(6), v(0)
	for range 9 {
		x, want = f(x, x), f(want, want)
	}
	holdPlain(t, x, want)
}

// An answer is new memory, and what is handed in is as it was, spare room too.
func TestFromKeepsNothing(t *testing.T) {
	room := []term.Term{v(7), g(v(3)), n(1), at("z"), v(9), v(8)}
	was := copied(f(room...))
	within := g(v(5), v(5))
	x := term.Term{Kind: 2, Name: "f", Args: room[:2]}
	shared := f(within, within)
	got, _, _ := alias.From(x, 4)
	again, _, _ := alias.From(x, 4)
	holdFrom(t, shared, 2, f(g(v(2), v(2)), g(v(2), v(2))), 3)
	twice, _, _ := alias.From(shared, 2)
	over(twice.Args[0])
	if !equal(twice.Args[1], g(v(2), v(2))) {
		t.Errorf("R4: two lists of one answer share: %v", twice)
	}
	over(got)
	if !equal(f(room...), was) || !equal(again, f(v(4), g(v(5)))) || !equal(shared, f(g(v(5), v(5)), g(v(5), v(5)))) {
		t.Errorf("R4: behind a change of an answer: %v, %v, %v", room, again, shared)
	}
	over(x)
	if !equal(again, f(v(4), g(v(5)))) {
		t.Errorf("R4: behind a change of what was handed in: %v", again)
	}
}

// What is answered hangs on nothing that was asked before.
func TestFromAgain(t *testing.T) {
	for range 3 {
		holdPlain(t, f(v(9), v(8)), f(v(0), v(1)))
		holdFrom(t, f(v(8), v(9)), 5, f(v(5), v(6)), 7)
		holdRefused(t, "two variables", f(v(8), v(9)), lastVar, api.EOVER)
		holdBoth(t, "two and one twice", f(v(8), v(9)), f(v(9), v(9)), false, true, false)
	}
}
