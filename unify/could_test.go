package unify_test

import (
	"math"
	"slices"
	"testing"

	"sizar/api"
	"sizar/term"
	"sizar/unify"
)

func TestCould(t *testing.T) {
	a, z := at("a"), at("z")
	for _, c := range []struct {
		x, y term.Term
		want bool
	}{
		{a, a, true}, {a, z, false}, {n(1), n(1), true}, {n(1), n(2), false}, {n(0), a, false}, {a, f(a), false},
		{v(0), a, true}, {v(5), n(1), true}, {v(0), v(0), true}, {v(0), v(1), true}, {v(3), f(v(4), a), true},
		{f(v(0), v(0)), f(a, a), true}, {f(v(0), v(0)), f(a, z), false}, {f(v(0), v(1)), f(a, z), true}, {f(v(0), v(0)), f(v(1), v(2)), true},
		{f(v(0), a), f(z, v(1)), true}, {f(v(0), a), f(v(1), z), false}, {f(v(0), v(0), v(1)), f(v(1), a, v(1)), true}, {f(v(0), v(0), v(1), v(1)), f(v(1), a, v(1), z), false}, {f(v(0), v(0), v(1)), f(v(1), a, v(2)), true},
		{f(v(0)), f(v(0), v(1)), false}, {f(v(0)), g(v(0)), false}, {f(f(v(0)), z), f(f(a), v(0)), true},
		{term.List([]term.Term{n(1), v(0)}, v(1)), term.List([]term.Term{v(0), n(2), n(3)}, at("[]")), true},
		{term.List([]term.Term{n(1), v(0)}, at("[]")), term.List([]term.Term{v(0), n(2), n(3)}, at("[]")), false},
	} {
		holdCould(t, "two terms", c.x, c.y, c.want)
	}
}

// A number in x and the same one in y are two variables.
func TestCouldWithVariablesOfOneNumber(t *testing.T) {
	a, z := at("a"), at("z")
	holdCould(t, "a variable and a name of it", v(0), f(v(0)), true)
	holdCould(t, "a name of a variable and a name of such a one", f(v(7)), f(f(v(7))), true)
	holdCould(t, "two with a variable at other places", f(v(0), a), f(z, v(0)), true)
	holdCould(t, "two with two variables turned", f(v(0), v(1), a), f(v(1), v(0), v(0)), true)
	holdCould(t, "two with two variables in each other", f(v(0), v(1)), f(f(v(1)), f(v(0))), true)
	// But within x, and within y, it is one.
	holdCould(t, "one in a name of it", f(v(0), v(0)), f(v(1), f(v(1))), false)
	holdCould(t, "one in a name of it, of the same number", f(v(0), v(0)), f(v(0), f(v(0))), false)
	holdCould(t, "one in a name of it on either side", f(v(0), f(v(0))), f(v(1), v(1)), false)
	holdCould(t, "one in a name of it by another", f(v(0), v(1), v(0)), f(v(1), f(v(1)), v(0)), true)
	holdCould(t, "one in a name of it by two others", f(v(0), v(1), v(0)), f(v(0), f(v(0)), f(v(0))), false)
	holdCould(t, "one that is two", f(v(0), v(0)), f(a, z), false)
}

func TestCouldOfAnyNumbers(t *testing.T) {
	for _, number := range []int64{0, 1, 65535, 65536, 65537, math.MaxInt32 - 1, math.MaxInt32} {
		holdCould(t, "a variable and an atom", v(number), at("a"), true)
		holdCould(t, "a variable and itself", v(number), v(number), true)
		holdCould(t, "a variable twice and one", f(v(number), v(number)), f(n(1), n(1)), true)
		holdCould(t, "a variable twice and two", f(v(number), v(number)), f(n(1), n(2)), false)
		holdCould(t, "a variable and one of a small number", f(v(number), v(0)), f(v(0), v(number)), true)
	}
}

func TestCouldOfWhatMayNotBe(t *testing.T) {
	for _, x := range bad() {
		for _, y := range []term.Term{v(0), at("a"), n(1), f(v(0)), x} {
			holdCould(t, "what may not be", x, y, false)
		}
		holdCould(t, "what may not be within", f(v(0), x), f(n(1), v(0)), false)
		holdCould(t, "what may not be within, and a variable", f(v(0), x), v(0), false)
	}
}

// What Both would refuse Could does, too.
func TestCouldAtTheLimits(t *testing.T) {
	a := at("a")
	holdCould(t, "as great ones as may be", row(api.MaxCells, a), row(api.MaxCells, a), true)
	holdCould(t, "as great ones as may be that are apart", row(api.MaxCells, a), row(api.MaxCells, n(1)), false)
	holdCould(t, "as great ones as may be with variables", row(api.MaxCells, v(0)), row(api.MaxCells, v(7)), true)
	holdCould(t, "as great ones as may be with a variable", row(api.MaxCells, v(0)), row(api.MaxCells, a), false)
	holdCould(t, "great ones with a variable", row(api.MaxCells-1, v(0)), row(api.MaxCells-1, a), true)
	holdCould(t, "a variable and a great one", v(0), row(api.MaxCells-1, v(0)), true)
	holdCould(t, "a variable and as great a one as may be", v(0), row(api.MaxCells, v(0)), false)
	holdCould(t, "a variable twice and two great ones", f(v(0), v(0)), f(row(999, a), row(999, a)), true)
	holdCould(t, "a variable twice and two great ones, and one more", f(v(0), v(0), a), f(row(999, a), row(999, a), a), false)
	holdCould(t, "as deep ones as may be", chain(api.MaxDepth, v(0)), chain(api.MaxDepth, a), true)
	holdCould(t, "as deep ones as may be with other variables", f(v(0), chain(api.MaxDepth-1, v(0))), f(chain(api.MaxDepth-1, v(1)), v(2)), true)
}

func TestCouldOfManyVariables(t *testing.T) {
	// 1748 variables beneath 219, 28, 4 and 1 names: one more would have no room.
	x, y := vars(1748, 0), vars(1748, math.MaxInt32-1747)
	if !term.Good(x) || !term.Good(y) || term.Size(x) != api.MaxCells {
		t.Fatalf("P7.1: terms of many variables: %d and %d", term.Size(x), term.Size(y))
	}
	holdCould(t, "many variables and many others", x, y, true)
	holdCould(t, "many variables and themselves", x, x, true)
	holdCould(t, "many variables and a number", x, n(1), false)
}

func TestCouldKeepsNothing(t *testing.T) {
	b := fresh(t, 3)
	set(t, b, 0, at("a"))
	h := hold(b)
	for range 3 {
		holdCould(t, "a variable and an atom", f(v(0)), f(at("b")), true)
		holdCould(t, "two apart", f(v(0), v(0)), f(at("b"), at("c")), false)
		h.same(t, b, "none")
	}
	if args := []term.Term{v(1), v(0)}; !unify.Could(f(args...), f(args...)) || !slices.EqualFunc(args, []term.Term{v(1), v(0)}, term.Same) {
		t.Errorf("R4: what was handed in is %v", args)
	}
}
