package alias_test

import (
	"math"
	"testing"

	"sizar/alias"
	"sizar/api"
	"sizar/term"
)

func TestNumbersAndNames(t *testing.T) {
	l := []term.Term{
		n(0), n(1), n(-1), n(math.MaxInt64), n(math.MinInt64), n(1 << 32), at(""), at("0"), at("1"), at("a"), at("A"), at("aa"), at("a\n"), at("f"), at("[]"), at("_0"),
		f(n(0)), f(n(1)), f(at("a")), f(at("")), g(n(1)), g(at("a")), f(f(n(1))), f(g(n(1))), f(n(1), n(1)), f(n(1), n(2)), g(n(1), n(2)), f(at("a"), n(1)), f(n(1), n(1), n(1)),
		list(n(1)), list(n(1), n(2)), term.List([]term.Term{n(1)}, n(2)),
	}
	for i, x := range l {
		holdBoth(t, "one without variables and itself", x, x, true, true, true)
		for _, y := range l[i+1:] {
			holdBoth(t, "two without variables", x, y, false, false, false)
		}
		holdBoth(t, "a variable and one without", v(4), x, false, true, false)
		holdBoth(t, "a variable within and one without", f(x, v(4)), f(x, x), false, true, false)
		holdBoth(t, "a variable within at another place", f(v(4), at("h")), f(x, v(4)), false, false, false)
		holdGround(t, "one without variables", x, true)
	}
}

func TestAlike(t *testing.T) {
	for _, c := range [][2]term.Term{
		{v(0), v(0)}, {v(0), v(7)}, {v(lastVar), v(0)}, {f(v(0), v(1)), f(v(5), v(3))}, {f(v(0), v(1)), f(v(1), v(0))}, {f(v(0), v(0)), f(v(3), v(3))},
		{f(v(0), v(1), v(0)), f(v(1), v(0), v(1))}, {f(v(2), g(v(1), v(2)), v(0)), f(v(0), g(v(1), v(0)), v(2))}, {f(v(0), at("a"), n(0)), f(v(9), at("a"), n(0))},
		{term.List([]term.Term{v(0), n(2)}, v(1)), term.List([]term.Term{v(1), n(2)}, v(0))},
	} {
		holdBoth(t, "two alike", c[0], c[1], true, true, true)
	}
	// Each of these says neither more nor less than the other one.
	for _, c := range [][2]term.Term{
		{f(v(0), v(1), v(0)), f(v(0), v(1), v(1))}, {f(v(0), v(0), v(1)), f(v(0), v(1), v(1))}, {f(v(0), at("a")), f(at("b"), v(0))}, {f(v(0), at("a")), f(v(0), at("b"))}, {f(v(0), at("a")), f(at("a"), v(0))},
		{f(v(0)), g(v(0))}, {f(v(0)), f(v(0), v(1))}, {f(v(0), n(1)), f(v(0), at("1"))}, {f(v(0)), at("f")}, {f(v(0)), n(0)}, {f(f(v(0))), f(g(v(0)))}, {f(v(0), g(v(0))), f(v(1), g(v(0)), v(0))},
		{list(v(0)), list(v(0), v(1))}, {f(v(0), v(0), v(1), v(2)), f(v(0), v(1), v(2), v(2))},
	} {
		holdBoth(t, "two apart", c[0], c[1], false, false, false)
	}
}

func TestMore(t *testing.T) {
	a, z := at("a"), at("z")
	for _, c := range [][2]term.Term{
		{v(0), a}, {v(0), n(0)}, {v(5), f(v(1), a)}, {f(v(0), v(1)), f(a, z)}, {f(v(0), v(1)), f(a, a)}, {f(v(0), v(0)), f(a, a)}, {f(v(0), v(1)), f(v(3), v(3))},
		{f(v(0), v(1)), f(v(1), a)}, {f(v(0), z), f(a, z)}, {f(v(0), v(0)), f(g(v(1)), g(v(1)))}, {f(v(0), v(0)), f(g(v(1), v(2), a), g(v(1), v(2), a))},
		{f(v(0), g(v(0))), f(a, g(a))}, {f(v(0), g(v(0))), f(g(v(0)), g(g(v(0))))}, {f(g(v(0)), v(0)), f(g(f(v(1), v(2))), f(v(1), v(2)))},
		{f(v(0), v(1), v(0)), f(v(1), v(1), v(1))}, {f(v(0), v(1), v(0)), f(a, v(0), a)}, {f(v(0), v(1), v(2)), f(v(1), v(2), v(1))},
		{term.List([]term.Term{v(0)}, v(1)), list(n(1), n(2))}, {term.List([]term.Term{v(0)}, v(1)), list(n(1))}, {term.List([]term.Term{v(0), v(0)}, v(1)), term.List([]term.Term{a, a}, z)},
	} {
		holdBoth(t, "one and what it may become", c[0], c[1], false, true, false)
	}
	// Each one is the same term everywhere.
	for _, c := range [][2]term.Term{
		{f(v(0), v(0)), f(a, z)}, {f(v(0), v(0)), f(a, n(1))}, {f(v(0), v(0)), f(g(v(1)), g(v(2)))}, {f(v(0), v(0)), f(a, f(a))}, {f(v(0), v(0)), f(n(1), n(2))}, {f(v(0), v(0)), f(g(a), g(z))}, {f(v(0), v(0)), f(g(a), f(a))},
		{f(v(0), v(0), v(1)), f(a, z, v(1))}, {f(v(0), g(v(0))), f(a, g(z))}, {f(v(0), g(v(0))), f(a, a)}, {f(g(v(0)), v(0)), f(g(a), g(a))}, {f(v(0), v(1), v(0)), f(a, a, z)}, {f(v(0), v(1), v(1)), f(a, a, z)},
		{term.List([]term.Term{v(0), v(0)}, v(1)), list(n(1), n(2))}, {term.List([]term.Term{v(0), v(1)}, v(2)), list(n(1))},
	} {
		holdBoth(t, "one and what it may not become", c[0], c[1], false, false, false)
	}
}

// The second one's variables count as atoms: a number in both is not one variable, and nothing is put in their place.
func TestMoreWithVariablesOfOneNumber(t *testing.T) {
	a := at("a")
	holdBoth(t, "a variable and a name of it", v(0), f(v(0)), false, true, false)
	holdBoth(t, "a name of a variable and a name of such a one", f(v(7)), f(f(v(7))), false, true, false)
	holdBoth(t, "two with variables in each other", f(v(0), v(1)), f(f(v(1)), f(v(0))), false, true, false)
	holdBoth(t, "two with two variables turned, and one", f(v(0), v(1), v(2)), f(v(1), v(0), v(0)), false, true, false)
	holdBoth(t, "a variable twice, and two", f(v(0), v(0)), f(v(0), v(1)), false, false, true)
	holdBoth(t, "a variable twice, and a name of it", f(v(0), v(0)), f(v(0), f(v(0))), false, false, false)
	holdBoth(t, "a variable, and one that is not told apart from an atom", f(v(0), a), f(v(0), v(1)), false, false, true)
	holdBoth(t, "a variable and an atom of its name", f(v(0), v(0)), f(v(0), at("_0")), false, false, false)
	holdBoth(t, "a variable and its number", f(v(3), v(3)), f(v(3), n(3)), false, false, false)
	holdBoth(t, "a number in the place of its variable", f(v(3), n(3)), f(n(3), n(3)), false, true, false)
	holdBoth(t, "a variable in the place of another, which has its own", f(v(0), v(1), v(1)), f(v(1), v(0), v(1)), false, false, false)
	holdBoth(t, "a variable where an atom is asked for", f(a, v(0)), f(v(0), v(0)), false, false, false)
}

func TestAlikeAndMoreOfWhatMayNotBe(t *testing.T) {
	for _, x := range bad() {
		// What is told beside an error is a variable: it is not to be taken for one.
		for _, y := range []term.Term{v(0), v(1), at("a"), n(1), f(v(0)), f(v(0), v(1)), x} {
			holdBoth(t, "what may not be", x, y, false, false, false)
		}
		holdBoth(t, "what may not be in the place of a variable", f(v(0), x), f(v(1), v(2)), false, false, false)
		holdBoth(t, "what may not be behind what is apart", f(n(1), x), f(n(2), x), false, false, false)
		holdGround(t, "what may not be", x, false)
	}
	l := bad()
	for i, x := range l {
		holdBoth(t, "two that may not be", x, l[(i+1)%len(l)], false, false, false)
	}
}

func TestAlikeAndMoreAtTheLimits(t *testing.T) {
	a, z := at("a"), at("z")
	const most = api.MaxCells
	holdBoth(t, "as great ones as may be", row(most, v(0), v(1)), row(most, v(7), v(3)), true, true, true)
	holdBoth(t, "as great ones as may be, the last one apart", row(most, v(0), a), row(most, v(0), z), false, false, false)
	holdBoth(t, "as great ones as may be, the last one another variable", row(most, v(0), v(1)), row(most, v(0), v(0)), false, true, false)
	holdBoth(t, "a variable and as great a one as may be", v(0), row(most, a, v(0)), false, true, false)
	holdBoth(t, "as great a one as may be of a variable", row(most, v(0), v(0)), row(most, a, a), false, true, false)
	holdBoth(t, "as great a one as may be of a variable, and the last one apart", row(most, v(0), v(0)), row(most, a, z), false, false, false)
	holdBoth(t, "a variable twice and two great ones", f(v(0), v(0)), f(row(999, a, v(0)), row(999, a, v(0))), false, true, false)
	holdBoth(t, "a variable twice and two great ones apart", f(v(0), v(0)), f(row(999, a, v(0)), row(999, a, v(1))), false, false, false)
	holdBoth(t, "as deep ones as may be", chain(api.MaxDepth, v(0)), chain(api.MaxDepth, a), false, true, false)
	holdBoth(t, "as deep ones as may be, alike", chain(api.MaxDepth, v(0)), chain(api.MaxDepth, v(1)), true, true, true)
	holdBoth(t, "a deep one and a deeper one", chain(api.MaxDepth-1, v(0)), chain(api.MaxDepth, v(0)), false, true, false)
	holdBoth(t, "many variables and many others", vars(mostVars, 0, 1), vars(mostVars, lastVar, -1), true, true, true)
	holdBoth(t, "many variables and one", vars(mostVars, 0, 1), vars(mostVars, 7, 0), false, true, false)
}

func TestGround(t *testing.T) {
	for _, number := range []int64{0, 1, 65536, lastVar} {
		x := v(number)
		holdGround(t, "a variable", x, false)
		holdGround(t, "a variable within", f(n(1), g(at("a"), x)), false)
		holdGround(t, "a variable in a list", list(n(1), x, n(2)), false)
		holdGround(t, "a variable behind a list", term.List([]term.Term{n(1)}, x), false)
		holdGround(t, "a variable at the end of as deep a one as may be", chain(api.MaxDepth, x), false)
		holdGround(t, "a variable at the end of as great a one as may be", row(api.MaxCells, n(1), x), false)
		for place := range api.MaxArity {
			args := make([]term.Term, api.MaxArity)
			for i := range args {
				args[i] = n(0)
			}
			args[place] = x
			holdGround(t, "a variable at a place", f(args...), false)
		}
	}
	holdGround(t, "as deep a one as may be", chain(api.MaxDepth, n(0)), true)
	holdGround(t, "as great a one as may be", row(api.MaxCells, n(0), at("")), true)
	holdGround(t, "a list", list(n(1), list(), f(at("X"))), true)
	holdGround(t, "one with names of variables", f(at("X"), at("_"), at("_0")), true)
}

// What is handed in is as it was, spare room too.
func TestAlikeAndMoreChangeNothing(t *testing.T) {
	room := []term.Term{v(7), g(v(3), v(7)), v(2), at("z")}
	x := term.Term{Kind: 2, Name: "f", Args: room[:2]}
	was := copied(f(room...))
	for range 2 {
		holdBoth(t, "one and what it may become", x, f(at("a"), g(v(7), at("a"))), false, true, false)
		holdBoth(t, "one and what it may not become", x, f(at("a"), g(v(7), at("b"))), false, false, false)
		holdBoth(t, "one and itself", x, x, true, true, true)
		holdGround(t, "one", x, false)
		if !equal(f(room...), was) {
			t.Errorf("R4: what was handed in is %v", room)
		}
	}
	if alias.More(x, f(n(1), g(n(2), n(3)))) || !alias.More(x, f(n(1), g(n(2), n(1)))) {
		t.Error("P13.1: More keeps what was asked")
	}
}
