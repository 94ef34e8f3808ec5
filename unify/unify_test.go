package unify_test

import (
	"math"
	"slices"
	"strings"
	"testing"

	"sizar/api"
	"sizar/bind"
	"sizar/term"
	"sizar/unify"
)

// v, n, at, f and g make terms: a variable, a number, an atom, and names with Args.
func v(number int64) term.Term { return term.Var(number) }

func n(number int64) term.Term { return term.Int(number) }

func at(name string) term.Term { return term.Atom(name) }

func f(args ...term.Term) term.Term { return term.Comp("f", args...) }

func g(args ...term.Term) term.Term { return term.Comp("g", args...) }

// chain makes a term so deep with one at its end.
func chain(deep int, last term.Term) term.Term {
	for range deep - 1 {
		last = f(last)
	}
	return last
}

// row makes a term of so many, of which the last one from the left is given, not deeper than 6: so many pairs, with one like it, are counted up to that last one.
func row(count int, last term.Term) term.Term {
	if count == 1 {
		return last
	}
	rest := count - 1
	args := make([]term.Term, min(rest, api.MaxArity))
	for i := range args {
		share := (rest + len(args) - 1 - i) / (len(args) - i)
		rest -= share
		args[i] = row(share, at("r"))
		if i == len(args)-1 {
			args[i] = row(share, last)
		}
	}
	return f(args...)
}

// vars makes a term of so many different variables from a number on, all of one name between them.
func vars(count int, first int64) term.Term {
	var l []term.Term
	for i := range int64(count) {
		l = append(l, v(first+i))
	}
	for len(l) > 1 {
		var up []term.Term
		for some := range slices.Chunk(l, api.MaxArity) {
			up = append(up, f(some...))
		}
		l = up
	}
	return l[0]
}

// bad are terms that may not be.
func bad() []term.Term {
	endless := []term.Term{n(1), at("a"), v(0)}
	endless[1] = term.Term{Kind: 2, Name: "f", Args: endless}
	twice := v(0)
	for range 60 {
		twice = f(twice, twice)
	}
	return []term.Term{
		{Kind: -1}, {Kind: 3}, {Kind: 3, Args: endless}, {Name: "a"}, {Args: []term.Term{v(0)}}, v(-1), v(math.MinInt64), v(math.MaxInt64), v(1 << 31), v(1 << 32),
		{Kind: 1, Name: "a"}, {Kind: 1, Args: []term.Term{n(1)}}, {Kind: 2, N: 1, Name: "a"}, {Kind: 2, N: 1, Name: "f", Args: []term.Term{v(0)}},
		at("\x00"), at("\xff"), at(strings.Repeat("a", api.MaxAtom+1)), term.Comp("\r", v(0)), f(slices.Repeat([]term.Term{n(1)}, api.MaxArity+1)...),
		chain(api.MaxDepth+1, v(0)), row(api.MaxCells+1, v(0)), endless[1], twice,
	}
}

// strange are terms that may not be, or have numbers that so many variables do not have.
func strange(count int) []term.Term {
	l := bad()
	for _, number := range []int64{int64(count), int64(count) + 1, math.MaxInt32} {
		l = append(l, v(number), f(v(number)), f(v(0), g(n(1), v(number)), v(0)), chain(api.MaxDepth, v(number)), row(api.MaxCells, v(number)), term.List([]term.Term{v(0)}, v(number)))
	}
	return l
}

// fresh makes Binds with so many variables.
func fresh(t *testing.T, count int) *bind.Binds {
	t.Helper()
	b := bind.New()
	for range count {
		if _, ok := b.Fresh(); !ok {
			t.Fatalf("P11.1: no room for %d variables", count)
		}
	}
	return b
}

// set makes variables stand for terms, from a number on.
func set(t *testing.T, b *bind.Binds, first int64, l ...term.Term) {
	t.Helper()
	for i, x := range l {
		if e := b.Set(first+int64(i), x); e != api.OK {
			t.Fatalf("P11.1: Set(%d, %v): %d", first+int64(i), x, e)
		}
	}
}

// doubled makes so many variables, from a number on, each stand for a name with the next one twice.
func doubled(t *testing.T, b *bind.Binds, first, count int64) {
	t.Helper()
	for i := first; i < first+count; i++ {
		set(t, b, i, f(v(i+1), v(i+1)))
	}
}

// told is what each variable stands for.
func told(b *bind.Binds) []term.Term {
	l := make([]term.Term, b.Len())
	for i := range l {
		l[i] = b.Walk(v(int64(i)))
	}
	return l
}

// held is how Binds are ahead of a call that is to change nothing.
type held struct {
	mark int
	told []term.Term
}

func hold(b *bind.Binds) held { return held{b.Mark(), told(b)} }

// same holds Binds against how they were.
func (h held) same(t *testing.T, b *bind.Binds, what string) {
	t.Helper()
	if b.Mark() != h.mark || !slices.EqualFunc(told(b), h.told, term.Same) {
		t.Errorf("P12.1: behind Both of %s: %d were set, not %d; %v, not %v", what, b.Mark(), h.mark, told(b), h.told)
	}
}

// holdAlike holds what Both answers of two that can be made alike, the other way round and back, and how many it makes stand for something.
func holdAlike(t *testing.T, b *bind.Binds, x, y term.Term, cost, sets int) {
	t.Helper()
	mark, vars := b.Mark(), b.Len()
	var ways [2][]term.Term
	for i, c := range [][2]term.Term{{y, x}, {x, y}} {
		b.Undo(mark)
		ok, many, e := unify.Both(b, c[0], c[1])
		if !ok || many != cost || e != api.OK {
			t.Errorf("P12.1: Both(%v, %v): %v, %d, %d; not %d", c[0], c[1], ok, many, e, cost)
		}
		if b.Mark() != mark+sets || b.Len() != vars {
			t.Errorf("P12.1: Both(%v, %v): %d were set, not %d; Len %d", c[0], c[1], b.Mark()-mark, sets, b.Len())
		}
		ways[i] = told(b)
	}
	if !slices.EqualFunc(ways[0], ways[1], term.Same) {
		t.Errorf("P12.1: Both(%v, %v) the other way round: %v, not %v", x, y, ways[0], ways[1])
	}
}

// holdNot holds what Both answers of two that it does not make alike, both ways round.
func holdNot(t *testing.T, b *bind.Binds, what string, x, y term.Term, cost int, err api.Errno) {
	t.Helper()
	h := hold(b)
	for range 2 {
		if ok, many, e := unify.Both(b, x, y); ok || many != cost || e != err {
			t.Errorf("P12.1, R2: Both of %s: %v, %d, %d; not %d, %d", what, ok, many, e, cost, err)
		}
		h.same(t, b, what)
		x, y = y, x
	}
}

// holdWhole holds what a variable stands for now, all the way in.
func holdWhole(t *testing.T, b *bind.Binds, number int64, want term.Term) {
	t.Helper()
	if x, e := b.Whole(v(number)); e != api.OK || !term.Same(x, want) {
		t.Errorf("P12.1: %d stands for %v, %d, not %v", number, x, e, want)
	}
}

// holdCould holds what Could answers, both ways round.
func holdCould(t *testing.T, what string, x, y term.Term, want bool) {
	t.Helper()
	if unify.Could(x, y) != want || unify.Could(y, x) != want {
		t.Errorf("P12.1: Could of %s: %v, and the other way round %v, not %v", what, unify.Could(x, y), unify.Could(y, x), want)
	}
}

func TestTheExample(t *testing.T) {
	b := fresh(t, 2)
	holdAlike(t, b, f(v(0), at("b")), f(at("a"), v(1)), 5, 2)
	holdWhole(t, b, 0, at("a"))
	holdWhole(t, b, 1, at("b"))
}

func TestNumbersAndNames(t *testing.T) {
	b := fresh(t, 2)
	l := []term.Term{
		n(0), n(1), n(-1), n(math.MaxInt64), n(math.MinInt64), n(1 << 32), at(""), at("0"), at("1"), at("-1"), at("a"), at("A"), at("aa"), at("a\n"), at("f"), at("[]"),
		f(n(0)), f(n(1)), f(at("a")), f(at("")), g(n(1)), g(at("a")), f(f(n(1))), f(g(n(1))), f(n(1), n(1)), f(n(1), n(2)), g(n(1), n(2)), f(at("a"), n(1)), f(n(1), n(1), n(1)),
		term.List([]term.Term{n(1)}, at("[]")), term.List([]term.Term{n(1), n(2)}, at("[]")), term.List([]term.Term{n(1)}, n(2)),
	}
	for i, x := range l {
		holdAlike(t, b, x, x, term.Size(x), 0)
		for _, y := range l[i+1:] {
			if ok, _, e := unify.Both(b, x, y); ok || e != api.OK {
				t.Errorf("P12.1: Both(%v, %v): %v, %d", x, y, ok, e)
			}
			if ok, _, e := unify.Both(b, y, x); ok || e != api.OK {
				t.Errorf("P12.1: Both(%v, %v): %v, %d", y, x, ok, e)
			}
			holdCould(t, "two that are not alike", x, y, false)
		}
	}
	// No Args and an empty list of Args are one.
	holdAlike(t, b, at("a"), term.Term{Kind: 2, Name: "a", Args: []term.Term{}}, 1, 0)
	holdAlike(t, b, n(1), term.Term{Kind: 1, N: 1, Args: []term.Term{}}, 1, 0)
	// What is told apart at once counts one, whatever its Args are.
	holdNot(t, b, "a number and another", n(1), n(2), 1, api.OK)
	holdNot(t, b, "a number and an atom", n(0), at(""), 1, api.OK)
	holdNot(t, b, "a number and one with Args", n(0), f(n(0)), 1, api.OK)
	holdNot(t, b, "an atom and one with Args", at("f"), f(v(0)), 1, api.OK)
	holdNot(t, b, "two names", f(v(0), v(1)), g(v(0), v(1)), 1, api.OK)
	holdNot(t, b, "other many Args", f(v(0), v(1)), f(v(0)), 1, api.OK)
}

func TestVariables(t *testing.T) {
	b := fresh(t, 6)
	holdAlike(t, b, v(3), v(3), 1, 0)
	holdNot(t, b, "a variable's number and it in a name", f(v(3), n(3)), f(n(3), at("3")), 4, api.OK)
	// The greater one stands for the lesser one, whichever is handed in first; Has is not asked.
	holdAlike(t, b, v(4), v(2), 1, 1)
	if x := told(b); !term.Same(x[4], v(2)) || !term.Same(x[2], v(2)) {
		t.Errorf("P12.1: of 4 and 2, 4 stands for %v, 2 for %v", x[4], x[2])
	}
	// By what they stand for: 4 is 2 now, and 5 is ahead of neither.
	holdAlike(t, b, v(4), v(2), 1, 0)
	holdAlike(t, b, v(4), v(5), 1, 1)
	holdAlike(t, b, v(5), v(0), 1, 1)
	holdAlike(t, b, v(4), v(1), 1, 1)
	for i, want := range []int64{0, 0, 0, 3, 0, 0} {
		holdWhole(t, b, int64(i), v(want))
	}
	holdAlike(t, b, v(5), v(2), 1, 0)
	holdAlike(t, b, v(2), f(v(3), n(1)), 4, 1)
	for _, i := range []int64{0, 1, 2, 4, 5} {
		holdWhole(t, b, i, f(v(3), n(1)))
	}
	holdAlike(t, b, v(5), v(2), 3, 0)
	holdAlike(t, b, v(1), f(at("a"), n(1)), 4, 1)
	holdNot(t, b, "what two stand for", v(5), g(v(3)), 1, api.OK)
	holdWhole(t, b, 4, f(at("a"), n(1)))
}

func TestAVariableAndAnything(t *testing.T) {
	for _, x := range []term.Term{n(0), n(-7), at("a"), at(""), at("[]"), f(n(1)), f(v(1), g(v(2)), v(1)), chain(api.MaxDepth, v(2)), term.List([]term.Term{v(1), n(1)}, v(2))} {
		b := fresh(t, 3)
		// The pair counts one, and Has counts all of it.
		holdAlike(t, b, v(0), x, 1+term.Size(x), 1)
		holdWhole(t, b, 0, x)
		holdAlike(t, b, v(0), x, term.Size(x), 0)
		// A greater one stands for what is no variable, too.
		c := fresh(t, 4)
		holdAlike(t, c, v(3), x, 1+term.Size(x), 1)
		holdWhole(t, c, 3, x)
	}
	// Has goes all the way in: it counts what variables within stand for.
	b := fresh(t, 4)
	set(t, b, 0, f(v(1), v(1)), g(v(2), n(1)))
	holdAlike(t, b, v(3), v(0), 8, 1)
	b.Undo(2)
	holdAlike(t, b, v(3), g(v(0), v(2)), 10, 1)
	holdWhole(t, b, 3, g(f(g(v(2), n(1)), g(v(2), n(1))), v(2)))
}

func TestNothingStandsInItself(t *testing.T) {
	b := fresh(t, 6)
	holdNot(t, b, "one and a name of it", v(0), f(v(0)), 3, api.OK)
	holdNot(t, b, "one and a list that ends in it", v(1), term.List([]term.Term{n(1), n(2)}, v(1)), 6, api.OK)
	for place := range api.MaxArity {
		args := slices.Repeat([]term.Term{v(5)}, api.MaxArity)
		args[place] = v(0)
		// Up to where it is found: the pair, the name, and each up to the place.
		holdNot(t, b, "one and a name with it at a place", v(0), f(args...), 3+place, api.OK)
		holdNot(t, b, "one and a deeper name with it at a place", v(0), f(n(1), f(args...), n(2)), 5+place, api.OK)
	}
	holdNot(t, b, "one and a deep name of it", v(0), chain(api.MaxDepth, v(0)), 1+api.MaxDepth, api.OK)
	// By what others stand for: 1 is f(2), 3 is 1's, 4 is f(g(3)).
	set(t, b, 1, f(v(2)))
	set(t, b, 3, v(1), f(g(v(3))))
	holdNot(t, b, "one and a variable that has it", v(2), v(1), 3, api.OK)
	holdNot(t, b, "one and a variable for one that has it", v(2), v(3), 3, api.OK)
	holdNot(t, b, "one and a variable that has it further in", v(2), v(4), 5, api.OK)
	holdNot(t, b, "one and a name of one that has it", v(2), g(n(1), v(4)), 7, api.OK)
	// By what is made to stand in the call: 0 for f(5), then 5 for g(0).
	holdNot(t, b, "two, each in the other", f(v(0), v(5)), f(f(v(5)), g(v(0))), 8, api.OK)
	holdNot(t, b, "two made one, and one in a name of the other", f(v(0), v(0)), f(v(5), g(v(5))), 5, api.OK)
	holdAlike(t, b, f(v(0), v(0)), f(v(5), v(5)), 3, 1)
}

func TestArgsFromLeftToRight(t *testing.T) {
	b := fresh(t, 9)
	// The first that are told apart end it.
	for place := range api.MaxArity {
		x, y := slices.Repeat([]term.Term{at("a")}, api.MaxArity), slices.Repeat([]term.Term{at("a")}, api.MaxArity)
		x[place], y[place] = n(1), n(2)
		holdNot(t, b, "two apart at a place", f(x...), f(y...), 2+place, api.OK)
		x[api.MaxArity-1], y[api.MaxArity-1] = v(0), g(v(1))
		if place < api.MaxArity-1 {
			holdNot(t, b, "two apart ahead of a variable", f(x...), f(y...), 2+place, api.OK)
		}
	}
	// Each pair is wholly ahead of the next: were the second one ahead of what is within the first, it would count too.
	holdNot(t, b, "two apart within the first", f(f(at("a"), n(1)), v(0)), f(f(at("a"), n(2)), f(v(1), v(2))), 4, api.OK)
	holdNot(t, b, "two apart deep within the first", f(f(f(f(n(1)))), v(0), v(1)), f(f(f(f(n(2)))), n(3), n(4)), 5, api.OK)
	// What was made to stand at the left does so at the right.
	holdAlike(t, b, f(v(0), v(0), v(0)), f(g(v(1)), v(2), g(v(3))), 9, 3)
}

func TestWhatStandsForSomethingAtTheRight(t *testing.T) {
	b := fresh(t, 5)
	holdAlike(t, b, f(v(0), v(0)), f(v(1), at("a")), 4, 2)
	holdWhole(t, b, 0, at("a"))
	holdWhole(t, b, 1, at("a"))
	holdNot(t, b, "two that one variable can't be", f(v(2), v(2)), f(at("a"), at("b")), 4, api.OK)
	holdNot(t, b, "two that one variable can't be, by another", f(v(2), v(3), v(2)), f(v(3), n(1), n(2)), 5, api.OK)
	holdAlike(t, b, f(v(2), v(3), v(4)), f(g(v(3)), g(v(4)), g(at("z"))), 10, 3)
	holdWhole(t, b, 2, g(g(g(at("z")))))
	holdAlike(t, b, f(v(2)), f(v(2)), 5, 0)
}

func TestWhatWasSetAheadStays(t *testing.T) {
	b := fresh(t, 5)
	set(t, b, 0, at("a"), f(v(2)))
	holdNot(t, b, "two apart behind some that stand for others", f(v(2), v(3), v(4), n(1)), f(n(7), v(4), v(0), n(2)), 7, api.OK)
	holdNot(t, b, "one that stands for another", v(0), at("b"), 1, api.OK)
	mark := b.Mark()
	holdAlike(t, b, f(v(2), v(3), v(4)), f(n(7), v(4), v(0)), 6, 3)
	holdWhole(t, b, 1, f(n(7)))
	holdWhole(t, b, 3, at("a"))
	if !b.Undo(mark) {
		t.Error("P11.1: Undo behind Both")
	}
	for i, want := range []term.Term{at("a"), f(v(2)), v(2), v(3), v(4)} {
		holdWhole(t, b, int64(i), want)
	}
	// What stands for nothing again may stand for something else.
	holdAlike(t, b, f(v(2), v(3)), f(n(8), n(9)), 5, 2)
	holdWhole(t, b, 1, f(n(8)))
}

func TestWhatMayNotBe(t *testing.T) {
	b := fresh(t, 4)
	set(t, b, 0, at("a"), f(v(2)))
	for _, x := range strange(4) {
		holdNot(t, b, "what may not be and an atom", x, at("a"), 0, api.EARG)
		holdNot(t, b, "what may not be and a variable", x, v(3), 0, api.EARG)
		holdNot(t, b, "what may not be and a variable that stands for something", x, v(1), 0, api.EARG)
		holdNot(t, b, "what may not be and itself", x, x, 0, api.EARG)
		holdNot(t, b, "what may not be behind two that are apart", f(n(1), x), f(n(2), x), 0, api.EARG)
		holdNot(t, b, "what may not be behind one that may", f(v(3), x), f(n(2), n(2)), 0, api.EARG)
		holdNot(t, b, "what may not be and another name", g(x), at("a"), 0, api.EARG)
	}
	// Where there are no variables, none is one of them.
	none := bind.New()
	holdNot(t, none, "a variable of none", v(0), v(0), 0, api.EARG)
	holdNot(t, none, "a name of a variable of none", at("a"), f(v(0)), 0, api.EARG)
	holdAlike(t, none, f(n(1), at("a")), f(n(1), at("a")), 3, 0)
	holdNot(t, none, "two apart", f(n(1), at("a")), f(n(1), at("b")), 3, api.OK)
	// EARG is ahead of ECELLS.
	deep := fresh(t, 101)
	doubled(t, deep, 0, 100)
	holdNot(t, deep, "too great a one and a variable of none", v(0), v(101), 0, api.EARG)
	holdNot(t, deep, "too great a one and a variable of none within", f(v(0), v(0)), f(v(0), v(101)), 0, api.EARG)
}

func TestAsManyPairsAsMayBeCounted(t *testing.T) {
	a, z := at("a"), at("z")
	for _, many := range []int{1, 2, 500, api.MaxCells - 1, api.MaxCells} {
		b := fresh(t, 4)
		holdAlike(t, b, row(many, a), row(many, a), many, 0)
		holdNot(t, b, "great ones that are apart at their end", row(many, a), row(many, z), many, api.OK)
		holdAlike(t, b, row(many, v(0)), row(many, v(0)), many, 0)
		holdAlike(t, b, row(many, v(0)), row(many, v(1)), many, 1)
	}
	// One more, by what a variable stands for.
	b := fresh(t, 6)
	set(t, b, 0, row(api.MaxCells, a), row(api.MaxCells, a), row(api.MaxCells, z), row(api.MaxCells, v(5)))
	holdAlike(t, b, v(0), v(1), api.MaxCells, 0)
	holdNot(t, b, "as great ones as may be that are apart at their end", v(0), v(2), api.MaxCells, api.OK)
	for _, number := range []int64{0, 1, 2, 3} {
		// Whatever the last pair is: alike, apart, variables.
		holdNot(t, b, "one pair too many", f(v(0)), f(v(number)), 0, api.ECELLS)
		holdNot(t, b, "one pair too many with variables", f(v(3)), f(v(number)), 0, api.ECELLS)
		holdNot(t, b, "one pair too many behind one that is set", f(v(4), v(3)), f(n(1), v(number)), 0, api.ECELLS)
		// What is apart ahead of it ends it.
		holdNot(t, b, "two apart ahead of too many", f(v(4), n(1), v(0)), f(n(1), n(2), v(number)), 4, api.OK)
	}
	// What is apart behind as many as may be is not looked at.
	holdNot(t, b, "two apart behind too many", f(v(0), n(1)), f(v(1), n(2)), 0, api.ECELLS)
}

func TestAsManyAsHasMayCount(t *testing.T) {
	a := at("a")
	b := fresh(t, 9)
	holdAlike(t, b, v(0), row(api.MaxCells-1, a), api.MaxCells, 1)
	b.Undo(0)
	holdNot(t, b, "a variable and one that is too great by one", v(0), row(api.MaxCells, a), 0, api.ECELLS)
	holdNot(t, b, "a variable and one that it ends", v(0), row(api.MaxCells-1, v(0)), api.MaxCells, api.OK)
	// It is within, but behind as many as may be counted.
	holdNot(t, b, "a variable and too great a one that it ends", v(0), row(api.MaxCells, v(0)), 0, api.ECELLS)
	holdNot(t, b, "a variable and a great one that it begins", v(0), f(v(0), row(api.MaxCells-2, a)), 3, api.OK)
	// The last pair of as many as may be: Has has no room.
	holdNot(t, b, "great ones with a variable at their end", row(api.MaxCells, v(0)), row(api.MaxCells, a), 0, api.ECELLS)
	holdAlike(t, b, row(api.MaxCells-1, v(0)), row(api.MaxCells-1, a), api.MaxCells, 1)
	b.Undo(0)
	holdNot(t, b, "great ones with a variable and a name of it at their end", row(api.MaxCells-2, v(0)), row(api.MaxCells-2, f(v(0))), api.MaxCells, api.OK)
	holdNot(t, b, "greater ones with a variable and a name of it at their end", row(api.MaxCells-1, v(0)), row(api.MaxCells-1, f(v(0))), 0, api.ECELLS)
	// Pairs and what Has counts are counted together: the name, 1 and 999, 1 and 998, or one more.
	holdAlike(t, b, f(v(0), v(1)), f(row(999, a), row(998, a)), api.MaxCells, 2)
	b.Undo(0)
	holdNot(t, b, "two variables and two too great by one", f(v(0), v(1)), f(row(999, a), row(999, a)), 0, api.ECELLS)
	// What stands for something is counted each time anew: 1, 1 and 999, 999.
	holdAlike(t, b, f(v(0), v(0)), f(row(999, a), row(999, a)), api.MaxCells, 1)
	b.Undo(0)
	holdNot(t, b, "a variable twice, and one more", f(v(0), v(0), n(1)), f(row(999, a), row(999, a), n(1)), 0, api.ECELLS)
	holdNot(t, b, "a variable twice, and two more that are apart", f(v(0), v(0), n(1)), f(row(999, a), row(999, a), n(2)), 0, api.ECELLS)
	holdAlike(t, b, f(v(0), v(0), n(1)), f(row(998, a), row(998, a), n(1)), api.MaxCells-1, 1)
}

func TestGreatByWhatVariablesStandFor(t *testing.T) {
	b := fresh(t, 500)
	doubled(t, b, 0, 200)
	doubled(t, b, 250, 200)
	holdNot(t, b, "a great one and itself", v(0), v(0), 0, api.ECELLS)
	holdNot(t, b, "two great ones", v(0), v(250), 0, api.ECELLS)
	holdNot(t, b, "a great one, and one within it", v(0), v(1), 202, api.OK)
	holdNot(t, b, "a variable and a great one", v(499), v(0), 0, api.ECELLS)
	holdNot(t, b, "a variable and a great one that ends in it", v(200), v(0), 202, api.OK)
	holdNot(t, b, "a great one and an atom", v(0), at("a"), 1, api.OK)
	holdNot(t, b, "a great one and another name", v(0), g(v(1), v(1)), 1, api.OK)
	// The last 10 of each: 1023 names above their 1024 ends.
	holdNot(t, b, "two lesser ones", v(190), v(440), 0, api.ECELLS)
	holdAlike(t, b, v(191), v(441), 1023, 1)
	holdAlike(t, b, v(191), v(191), 1023, 0)
	holdAlike(t, b, v(498), v(191), 1024, 1)
}

func TestDeepByWhatVariablesStandFor(t *testing.T) {
	const last = 65535
	b := fresh(t, last+1)
	for i := int64(0); i < last-1; i += 2 {
		set(t, b, i, f(v(i+2)))
	}
	mark := b.Mark()
	for _, c := range [][2]int64{{0, 0}, {0, 2}, {0, last}, {last, 0}} {
		if ok, cost, e := unify.Both(b, v(c[0]), v(c[1])); ok || cost != 0 || e != api.ECELLS || b.Mark() != mark {
			t.Errorf("P12.1: Both(%d, %d) of a deep one: %v, %d, %d", c[0], c[1], ok, cost, e)
		}
	}
	// From there on it is as deep as may be counted: 1999 names and the variable at the end.
	for _, c := range []struct {
		first, cost int64
		e           api.Errno
	}{{last - 1, 1, 0}, {last - 3, 2, 0}, {last - 1 - 2*1999, 2000, 0}, {last - 1 - 2*2000, 0, api.ECELLS}} {
		if ok, cost, e := unify.Both(b, v(c.first), v(c.first)); ok != (c.e == 0) || int64(cost) != c.cost || e != c.e {
			t.Errorf("P12.1: Both(%d, %d) of a deep one: %v, %d, %d", c.first, c.first, ok, cost, e)
		}
	}
	// What Whole could not tell any more can be made alike.
	few := fresh(t, 3)
	set(t, few, 0, chain(api.MaxDepth, v(1)))
	holdAlike(t, few, v(1), chain(api.MaxDepth, v(2)), 1+api.MaxDepth, 1)
	holdAlike(t, few, v(0), chain(api.MaxDepth, v(1)), api.MaxDepth+api.MaxDepth-1, 0)
}

func TestLongWays(t *testing.T) {
	const last = 65535
	b := fresh(t, last+1)
	for i := int64(last); i > 0; i-- {
		if ok, cost, e := unify.Both(b, v(i-1), v(i)); !ok || cost != 1 || e != api.OK {
			t.Fatalf("P12.1: Both(%d, %d): %v, %d, %d", i-1, i, ok, cost, e)
		}
	}
	if ok, cost, e := unify.Both(b, v(last), v(0)); !ok || cost != 1 || e != api.OK || b.Mark() != last {
		t.Errorf("P12.1: Both of the ends of a way: %v, %d, %d", ok, cost, e)
	}
	if ok, cost, e := unify.Both(b, v(last), f(n(1), v(last/2))); ok || cost != 4 || e != api.OK || b.Mark() != last {
		t.Errorf("P12.1: Both of a way and one with it: %v, %d, %d", ok, cost, e)
	}
	if ok, cost, e := unify.Both(b, v(last), at("a")); !ok || cost != 2 || e != api.OK || b.Mark() != last+1 {
		t.Errorf("P12.1: Both of a way and an atom: %v, %d, %d", ok, cost, e)
	}
	holdWhole(t, b, last, at("a"))
	holdWhole(t, b, last/2, at("a"))
}

func TestOneCallAndAnother(t *testing.T) {
	a, b := fresh(t, 3), fresh(t, 3)
	for range 3 {
		x, y := f(v(0), v(2), v(0)), f(v(1), n(1), at("a"))
		ok, cost, e := unify.Both(a, x, y)
		again, many, err := unify.Both(b, x, y)
		if ok != again || cost != many || e != err || !slices.EqualFunc(told(a), told(b), term.Same) {
			t.Errorf("R5: Both of the same: %v, %d, %d, and %v, %d, %d", ok, cost, e, again, many, err)
		}
	}
	// What one was told another was not.
	c := fresh(t, 3)
	if !slices.EqualFunc(told(c), []term.Term{v(0), v(1), v(2)}, term.Same) || c.Mark() != 0 {
		t.Errorf("R5: of others stands %v", told(c))
	}
	holdCould(t, "one that others stand for something else", v(0), at("b"), true)
}

func TestNoCallChangesATerm(t *testing.T) {
	for _, y := range []term.Term{f(at("a"), v(1), v(2), at("a")), f(v(1), v(2), f(n(1), n(2)), v(0)), f(v(1), n(1), n(2), n(3)), {Kind: 4}} {
		room := append(make([]term.Term, 0, 9), v(0), f(v(0), v(2)), v(1), at("a"))
		want := slices.Clone(room[:9])
		b := fresh(t, 3)
		x := term.Term{Kind: 2, Name: "f", Args: room}
		unify.Both(b, x, y)
		unify.Both(b, y, x)
		unify.Could(x, y)
		unify.Could(y, x)
		unify.Could(x, x)
		if !slices.EqualFunc(room[:9], want, term.Same) {
			t.Errorf("R4: what was handed in is %v, not %v", room[:9], want)
		}
	}
}
