package code_test

import (
	"math"
	"slices"
	"strconv"
	"testing"

	"sizar/api"
	"sizar/bind"
	"sizar/code"
	"sizar/term"
)

const mostVars = 65536 // as many variables as Binds give

// fresh makes Binds with so many variables.
func fresh(t *testing.T, count int) *bind.Binds {
	t.Helper()
	b := bind.New()
	for range count {
		if _, ok := b.Fresh(); !ok {
			t.Fatalf("P11.1: no room for %d variables", count)
		}
	}
	return b
}

// set makes variables stand for terms, from a number on.
func set(t *testing.T, b *bind.Binds, from int64, l ...term.Term) {
	t.Helper()
	for i, x := range l {
		if e := b.Set(from+int64(i), x); e != api.OK {
			t.Fatalf("P11.1: Set(%d, %s): %d", from+int64(i), show(x), e)
		}
	}
}

// told is what each of the first so many variables stands for.
func told(b *bind.Binds, count int) []term.Term {
	l := make([]term.Term, count)
	for i := range l {
		l[i] = b.Walk(v(int64(i)))
	}
	return l
}

// head makes a head into steps.
func head(t *testing.T, x term.Term) code.Code {
	t.Helper()
	c, e := code.Head(x)
	if e != api.OK {
		t.Fatalf("P15.1: Head(%s): %d", show(x), e)
	}
	return c
}

// wholes tells terms all the way in.
func wholes(t *testing.T, b *bind.Binds, l []term.Term) []term.Term {
	t.Helper()
	var out []term.Term
	for _, x := range l {
		y, e := b.Whole(x)
		if e != api.OK {
			t.Errorf("P11.1: Whole(%s): %d", show(x), e)
		}
		out = append(out, y)
	}
	return out
}

// holdTrue holds what a Match makes of its args and its slots, all the way in, and how many new variables it takes.
func holdTrue(t *testing.T, b *bind.Binds, c code.Code, args, want, slots []term.Term, news int) {
	t.Helper()
	vars := b.Len()
	l, ok, e := code.Match(b, c, args)
	if !ok || e != api.OK || len(l) != c.Slots {
		t.Errorf("P15.1: Match(%s, %s): %s, %v, %d", show(c), show(args), show(l), ok, e)
		return
	}
	if got := wholes(t, b, args); !slices.EqualFunc(got, want, term.Same) {
		t.Errorf("P15.1: Match(%s, %s) makes %s of them, not %s", show(c), show(args), show(got), show(want))
	}
	if got := wholes(t, b, l); !slices.EqualFunc(got, slots, term.Same) {
		t.Errorf("P15.1: Match(%s, %s) has the slots %s, not %s", show(c), show(args), show(got), show(slots))
	}
	if b.Len() != vars+news {
		t.Errorf("P15.1: Match(%s, %s) took %d new variables, not %d", show(c), show(args), b.Len()-vars, news)
	}
}

// holdNot holds that a Match makes nothing of its args, and how many new variables it takes.
func holdNot(t *testing.T, what string, b *bind.Binds, c code.Code, args []term.Term, err api.Errno, news int) {
	t.Helper()
	vars, mark := b.Len(), b.Mark()
	were := told(b, vars)
	if l, ok, e := code.Match(b, c, args); ok || len(l) != 0 || e != err {
		t.Errorf("P15.1, R2: Match of %s: (%s, %s): %s, %v, %d; not %d", what, show(c), show(args), show(l), ok, e, err)
	}
	if b.Mark() != mark || !slices.EqualFunc(told(b, vars), were, term.Same) {
		t.Errorf("P15.1: behind Match of %s: %d were set, not %d; %s, not %s", what, b.Mark(), mark, show(told(b, vars)), show(were))
	}
	if b.Len() != vars+news {
		t.Errorf("P15.1: Match of %s took %d new variables, not %d", what, b.Len()-vars, news)
	}
}

// holdRefused holds that a Match changes nothing at all.
func holdRefused(t *testing.T, what string, b *bind.Binds, c code.Code, args []term.Term, err api.Errno) {
	t.Helper()
	holdNot(t, what, b, c, args, err, 0)
}

// l makes a list of terms.
func l(some ...term.Term) []term.Term { return some }

func TestMatch(t *testing.T) {
	a, b := at("a"), at("b")
	for _, c := range []struct {
		head       term.Term
		vars       int
		args       []term.Term
		want, slot []term.Term
		news       int
	}{
		{at("p"), 0, nil, nil, nil, 0},
		{p(v(0)), 0, l(a), l(a), l(a), 0},
		{p(v(0)), 3, l(v(2)), l(v(2)), l(v(2)), 0},
		{p(v(0), v(1)), 2, l(v(1), f(v(0))), l(v(1), f(v(0))), l(v(1), f(v(0))), 0},
		{p(a), 0, l(a), l(a), nil, 0},
		{p(a), 1, l(v(0)), l(a), nil, 0},
		{p(n(-7)), 0, l(n(-7)), l(n(-7)), nil, 0},
		{p(n(-7)), 1, l(v(0)), l(n(-7)), nil, 0},
		{p(n(math.MinInt64)), 1, l(v(0)), l(n(math.MinInt64)), nil, 0},
		{p(at("")), 1, l(v(0)), l(at("")), nil, 0},
		{p(v(0), v(0)), 1, l(v(0), a), l(a, a), l(a), 0},
		{p(v(0), v(0)), 1, l(a, v(0)), l(a, a), l(a), 0},
		{p(v(0), v(0)), 0, l(f(a, n(1)), f(a, n(1))), l(f(a, n(1)), f(a, n(1))), l(f(a, n(1))), 0},
		{p(v(0), v(0)), 2, l(f(v(0), a), f(b, v(1))), l(f(b, a), f(b, a)), l(f(b, a)), 0},
		// of two variables the one of the greater number stands for the other.
		{p(v(0), v(0)), 2, l(v(1), v(0)), l(v(0), v(0)), l(v(0)), 0},
		{p(v(0), v(0)), 2, l(v(0), v(1)), l(v(0), v(0)), l(v(0)), 0},
		{p(f(v(0)), v(1)), 0, l(f(n(1)), n(2)), l(f(n(1)), n(2)), l(n(1), n(2)), 0},
		{p(f(v(0), a)), 1, l(f(b, v(0))), l(f(b, a)), l(b), 0},
		// a name of a variable: new ones for all its Args, whatever they are.
		{p(f(v(0))), 1, l(v(0)), l(f(v(1))), l(v(1)), 1},
		{p(f(a)), 1, l(v(0)), l(f(a)), nil, 1},
		{p(f(a, n(1), b)), 1, l(v(0)), l(f(a, n(1), b)), nil, 3},
		{p(f(v(0), v(1), v(0))), 1, l(v(0)), l(f(v(1), v(2), v(1))), l(v(1), v(2)), 3},
		{p(f(g(v(0)))), 1, l(v(0)), l(f(g(v(2)))), l(v(2)), 2},
		{p(f(g(v(0)), v(1)), f(g(a))), 2, l(v(1), v(0)), l(f(g(v(5)), v(3)), f(g(a))), l(v(5), v(3)), 5},
		{p(v(0), f(v(0))), 2, l(v(0), v(1)), l(v(0), f(v(0))), l(v(0)), 1},
		{p(f(v(0)), v(0)), 1, l(v(0), a), l(f(a), a), l(a), 1},
		{p(f(v(0)), f(v(0))), 1, l(v(0), v(0)), l(f(v(1)), f(v(1))), l(v(1)), 1},
		{p(f(v(0)), g(v(0))), 2, l(f(v(0)), v(1)), l(f(v(0)), g(v(0))), l(v(0)), 1},
		{p(v(0), v(1), v(0)), 2, l(v(0), v(1), f(v(1))), l(f(v(1)), v(1), f(v(1))), l(f(v(1)), v(1)), 0},
		{p(v(0), f(v(1), v(0))), 2, l(v(0), f(v(0), v(1))), l(v(0), f(v(0), v(0))), l(v(0), v(0)), 0},
		{p(term.Comp(".", v(0), v(1)), v(0)), 1, l(term.List(l(n(1), n(2)), at("[]")), v(0)), l(term.List(l(n(1), n(2)), at("[]")), n(1)), l(n(1), term.List(l(n(2)), at("[]"))), 0},
	} {
		holdTrue(t, fresh(t, c.vars), head(t, c.head), c.args, c.want, c.slot, c.news)
	}
}

func TestMatchOfWhatStandsForSomething(t *testing.T) {
	b := fresh(t, 6)
	set(t, b, 1, v(2), f(v(3), at("a")), v(4))
	// 1 is f(4, a), by 2 and 3.
	holdTrue(t, b, head(t, p(f(v(0), v(1)), v(0))), l(v(1), v(0)), l(f(v(0), at("a")), v(0)), l(v(0), at("a")), 0)
	holdRefused(t, "a name of a variable that stands for another", b, head(t, p(g(v(0), v(1)))), l(v(1)), api.OK)
	holdRefused(t, "a name of more Args", b, head(t, p(f(v(0)))), l(v(1)), api.OK)
	holdRefused(t, "a number of a variable that stands for a name", b, head(t, p(n(1))), l(v(2)), api.OK)
	holdRefused(t, "another atom within", b, head(t, p(f(v(0), at("b")))), l(f(v(5), v(1))), api.OK)
	holdTrue(t, b, head(t, p(n(1), f(v(0), v(1)))), l(v(5), v(2)), l(n(1), f(v(0), at("a"))), l(v(0), at("a")), 0)
	holdRefused(t, "an atom of a variable that a Match made stand for a number", b, head(t, p(at("1"))), l(v(5)), api.OK)
	// 0 and 4 are one variable by now.
	holdNot(t, "a variable in itself", b, head(t, p(g(v(0), v(1)), v(0))), l(v(0), v(4)), api.OK, 2)
}

func TestMatchOfOthers(t *testing.T) {
	a, b := at("a"), at("b")
	for _, c := range []struct {
		what string
		head term.Term
		vars int
		args []term.Term
		news int
	}{
		{"another atom", p(a), 0, l(b), 0},
		{"an atom of a number", p(at("1")), 0, l(n(1)), 0},
		{"a number of an atom", p(n(1)), 0, l(at("1")), 0},
		{"an atom without letters of nought", p(at("")), 0, l(n(0)), 0},
		{"nought of an atom without letters", p(n(0)), 0, l(at("")), 0},
		{"another number", p(n(1)), 0, l(n(2)), 0},
		{"one with another sign", p(n(1)), 0, l(n(-1)), 0},
		{"an atom of a name", p(at("f")), 0, l(f(a)), 0},
		{"a name of an atom", p(f(a)), 0, l(at("f")), 0},
		{"a name without letters of a number", p(term.Comp("", a)), 0, l(n(0)), 0},
		{"a number of a name", p(n(0)), 0, l(term.Comp("", n(0))), 0},
		{"another name", p(f(a)), 0, l(g(a)), 0},
		{"fewer Args", p(f(a)), 0, l(f(a, a)), 0},
		{"more Args", p(f(a, a)), 0, l(f(a)), 0},
		{"another one within", p(f(g(a), b)), 0, l(f(g(b), b)), 0},
		{"another one at the end", p(f(g(a), b)), 0, l(f(g(a), a)), 0},
		{"a variable of two", p(v(0), v(0)), 0, l(a, b), 0},
		{"a variable of two within", p(f(v(0)), v(0)), 0, l(f(a), b), 0},
		{"a variable in itself", p(v(0), v(0)), 1, l(v(0), f(v(0))), 0},
		{"a variable in itself, the other way round", p(v(0), v(0)), 1, l(f(v(0)), v(0)), 0},
		{"a variable in a name of itself", p(v(0), f(v(0))), 1, l(v(0), v(0)), 1},
		{"a variable in a name of itself, ahead", p(f(v(0)), v(0)), 1, l(v(0), v(0)), 1},
		{"a variable deep in itself", p(f(v(0), g(v(1))), v(1)), 1, l(v(0), v(0)), 3},
		{"a variable in itself by another", p(v(0), f(v(0))), 2, l(g(v(1)), v(1)), 1},
		{"one that is set, and then another", p(a, f(v(0)), b, v(0), n(1)), 4, l(v(0), v(1), v(2), v(3), n(2)), 1},
		{"other ones that stand for one", p(f(v(0)), g(v(0))), 1, l(v(0), v(0)), 1},
		{"the first of two", p(a, v(0)), 1, l(b, v(0)), 0},
		{"the second of two", p(v(0), a), 1, l(v(0), b), 0},
	} {
		holdNot(t, c.what, fresh(t, c.vars), head(t, c.head), c.args, api.OK, c.news)
	}
}

// Steps are done in their order: those behind one that ends it take no variables.
func TestMatchEndsAtTheFirst(t *testing.T) {
	holdNot(t, "an atom ahead of a name", fresh(t, 2), head(t, p(at("a"), f(v(0)))), l(at("b"), v(0)), api.OK, 0)
	holdNot(t, "an atom behind a name", fresh(t, 2), head(t, p(f(v(0)), at("a"))), l(v(0), at("b")), api.OK, 1)
	holdNot(t, "an atom deeper than a name behind it", fresh(t, 2), head(t, p(g(at("a")), f(v(0)))), l(g(at("b")), v(0)), api.OK, 1)
	holdNot(t, "an atom in a name of a variable, and others", fresh(t, 2), head(t, p(f(at("a")), v(0), f(v(0)))), l(v(0), at("b"), v(0)), api.OK, 1)
}

func TestMatchOfWrongOnes(t *testing.T) {
	a := at("a")
	one, two, zero := head(t, p(v(0))), head(t, p(v(0), a)), head(t, at("p"))
	b := fresh(t, 2)
	set(t, b, 0, f(v(1)))
	for i, c := range []struct {
		c    code.Code
		args []term.Term
	}{
		{zero, l(a)}, {one, nil}, {one, l()}, {one, l(a, a)}, {two, nil}, {two, l(a)}, {two, l(a, a, a)}, {two, slices.Repeat(l(a), api.MaxArity+1)},
		{one, l(v(2))}, {one, l(v(3))}, {one, l(v(math.MaxInt32))}, {two, l(v(2), a)}, {two, l(v(0), v(2))}, {two, l(a, f(v(0), v(1), g(v(2))))}, {two, l(n(1), v(2))},
		// it would be false at the first step, if the second arg might be.
		{head(t, p(n(1), n(2))), l(n(2), v(2))}, {head(t, p(n(1), n(2))), l(n(2), term.Term{Kind: 3})},
	} {
		holdRefused(t, "the wrong Args of number "+strconv.Itoa(i), b, c.c, c.args, api.EARG)
	}
	for _, x := range bad() {
		holdRefused(t, "an arg that may not be", b, one, l(x), api.EARG)
		holdRefused(t, "a second arg that may not be", b, two, l(v(1), x), api.EARG)
		holdRefused(t, "a first arg that may not be", b, two, l(x, a), api.EARG)
	}
	holdRefused(t, "a variable of Binds that have none", fresh(t, 0), one, l(v(0)), api.EARG)
	holdTrue(t, b, one, l(v(1)), l(v(1)), l(v(1)), 0)
	// a code that may not be is refused whatever the args are.
	wrong := steps(1, 1, val(0, 0))
	for _, args := range [][]term.Term{nil, l(a), l(v(2)), l(a, a)} {
		holdRefused(t, "a code that may not be", b, wrong, args, api.EARG)
	}
}

// Where there is no room for new variables, those that there was room for are gone.
func TestMatchWithoutRoom(t *testing.T) {
	three, deep := head(t, p(f(v(0), at("a"), v(0)))), head(t, p(at("a"), f(g(v(0)), v(1))))
	for _, c := range []struct {
		what string
		c    code.Code
		args []term.Term
		room int
		err  api.Errno
		news int
	}{
		{"three new ones", three, l(v(0)), 3, api.OK, 3}, {"three new ones", three, l(v(0)), 4, api.OK, 3},
		{"room for two of three", three, l(v(0)), 2, api.ECELLS, 2}, {"room for none of three", three, l(v(0)), 0, api.ECELLS, 0},
		{"no new ones", three, l(f(v(0), v(1), v(2))), 0, api.OK, 0},
		{"two new ones and one", deep, l(v(0), v(1)), 3, api.OK, 3}, {"room for two of two and one", deep, l(v(0), v(1)), 2, api.ECELLS, 2}, {"room for one of two and one", deep, l(v(0), v(1)), 1, api.ECELLS, 1},
		{"room for one within", deep, l(v(0), f(v(1), v(2))), 1, api.OK, 1}, {"no room for one within", deep, l(v(0), f(v(1), v(2))), 0, api.ECELLS, 0},
	} {
		b := fresh(t, mostVars-c.room)
		if c.err != api.OK {
			holdNot(t, c.what, b, c.c, c.args, c.err, c.news)
			continue
		}
		if l, ok, e := code.Match(b, c.c, c.args); !ok || e != api.OK || len(l) != c.c.Slots || b.Len() != mostVars-c.room+c.news {
			t.Errorf("P15.1: Match of %s, with room for %d: %v, %d, %d variables", c.what, c.room, ok, e, b.Len())
		}
	}
	// what is false ahead of that is false.
	holdRefused(t, "another atom ahead of no room", fresh(t, mostVars), deep, l(at("b"), v(1)), api.OK)
	holdRefused(t, "no room ahead of another atom", fresh(t, mostVars), head(t, p(f(v(0)), at("a"))), l(v(0), at("b")), api.ECELLS)
	holdRefused(t, "another atom behind no room, by depth", fresh(t, mostVars), head(t, p(f(at("a")), f(v(0)))), l(f(at("b")), v(0)), api.ECELLS)
	holdRefused(t, "an arg that may not be ahead of no room", fresh(t, mostVars), deep, l(v(0), v(mostVars)), api.EARG)
}

// What unify's Both tells of one val, Match does.
func TestMatchOfTooManyCells(t *testing.T) {
	twice := head(t, p(v(0), v(0)))
	full := great(api.MaxCells, always(at("a")))
	holdTrue(t, fresh(t, 0), twice, l(full, full), l(full, full), l(full), 0)
	// one more than may be looked at, by a variable in each.
	b := fresh(t, 2)
	set(t, b, 0, f(at("a"), at("a")), f(at("a"), at("a")))
	end := great(api.MaxCells-1, always(v(0)))
	holdRefused(t, "too many", b, twice, l(end, end), api.ECELLS)
	// each val is counted by itself.
	holdTrue(t, fresh(t, 0), head(t, p(v(0), v(0), v(0), v(0))), l(full, full, full, full), l(full, full, full, full), l(full), 0)
	// what is looked at within one that a variable is to stand for counts, too: by Has.
	b = fresh(t, 2)
	set(t, b, 0, full)
	holdRefused(t, "too many by Has", b, twice, l(v(0), v(1)), api.ECELLS)
	holdRefused(t, "too many by Has, the other way round", b, twice, l(v(1), v(0)), api.ECELLS)
	holdNot(t, "too many behind what was set and made", fresh(t, 3), head(t, p(at("a"), f(v(0)), v(1), v(1))), l(v(0), v(1), full, v(2)), api.ECELLS, 1)
	holdRefused(t, "another atom ahead of too many", b, head(t, p(at("a"), v(0), v(0))), l(at("b"), v(0), v(1)), api.OK)
	holdRefused(t, "too many ahead of another atom", b, head(t, p(v(0), v(0), at("a"))), l(v(0), v(1), at("b")), api.ECELLS)
	// no step but a val looks at more than a few, however great its arg is.
	within := great(api.MaxCells-1, always(n(1)))
	holdTrue(t, fresh(t, 0), head(t, p(v(0), f(v(1)))), l(full, f(within)), l(full, f(within)), l(full, within), 0)
	holdRefused(t, "an atom of a great one", fresh(t, 0), head(t, p(at("a"))), l(full), api.OK)
}

// What is deeper than a term may be is matched step by step.
func TestMatchOfMoreThanATermMayBe(t *testing.T) {
	b := fresh(t, 1)
	deep := long(api.MaxCells)
	slots, ok, e := code.Match(b, deep, l(v(0)))
	if !ok || e != api.OK || len(slots) != 1 || b.Len() != api.MaxCells || b.Mark() != api.MaxCells-1 {
		t.Fatalf("P15.2: Match of one far deeper than a term: %s, %v, %d; %d variables, %d set", show(slots), ok, e, b.Len(), b.Mark())
	}
	if _, e := b.Whole(v(0)); e != api.ECELLS {
		t.Errorf("P11.1: Whole of one far deeper than a term: %d", e)
	}
	// what it made is as deep as it: it takes no new variables now, and its end is the one made first.
	again, ok, e := code.Match(b, deep, l(v(0)))
	if !ok || e != api.OK || len(again) != 1 || !term.Same(b.Walk(again[0]), b.Walk(slots[0])) || b.Len() != api.MaxCells {
		t.Errorf("P15.2: Match once more: %s, %v, %d; %d variables", show(again), ok, e, b.Len())
	}
	atEnd := copied(deep)
	atEnd.Slots, atEnd.L[api.MaxCells-1] = 0, atom(api.MaxCells-1, "a")
	if _, ok, e := code.Match(b, atEnd, l(v(0))); !ok || e != api.OK || !term.Same(b.Walk(slots[0]), at("a")) {
		t.Errorf("P15.2: Match of an atom at its end: %v, %d, %s", ok, e, show(b.Walk(slots[0])))
	}
	atEnd.L[api.MaxCells-1] = atom(api.MaxCells-1, "b")
	holdRefused(t, "another atom at its end", b, atEnd, l(v(0)), api.OK)
	broad := wide(api.MaxCells)
	b = fresh(t, api.MaxArity)
	if slots, ok, e := code.Match(b, broad, told(b, api.MaxArity)); !ok || e != api.OK || len(slots) != broad.Slots || b.Len() != api.MaxCells {
		t.Errorf("P15.2: Match of one greater than a term: %v, %d; %d variables", ok, e, b.Len())
	}
}

func TestMatchKeepsAndSharesNothing(t *testing.T) {
	x := p(v(0), f(v(1), v(0)), v(1))
	args := append(make([]term.Term, 0, 9), v(0), v(1), at("a"))
	c := head(t, x)
	was := copied(c)
	b := fresh(t, 2)
	slots, ok, e := code.Match(b, c, args)
	if !ok || e != api.OK {
		t.Fatalf("P15.1: Match: %v, %d", ok, e)
	}
	if !slices.EqualFunc(args, l(v(0), v(1), at("a")), term.Same) || slices.ContainsFunc(args[3:9], func(a term.Term) bool { return !none(a) }) {
		t.Errorf("R4: Match changed its args: %s", show(args[:9]))
	}
	if !equal(c, was) {
		t.Errorf("R4: Match changed its code: %s", show(c))
	}
	want := wholes(t, b, slots)
	clear(args[:9])
	clear(c.L)
	if got := wholes(t, b, slots); !slices.EqualFunc(got, want, term.Same) {
		t.Errorf("R4: the slots are %s behind a change of the args, not %s", show(got), show(want))
	}
	made := wholes(t, b, l(v(0), v(1)))
	clear(slots[:cap(slots)])
	if got := wholes(t, b, l(v(0), v(1))); !slices.EqualFunc(got, made, term.Same) {
		t.Errorf("R4: variables stand for %s behind a change of the slots, not %s", show(got), show(made))
	}
}

// Marks of those that have the Binds hold: a Match can be gone back from.
func TestMatchIsGoneBackFrom(t *testing.T) {
	b := fresh(t, 2)
	set(t, b, 0, f(v(1)))
	mark := b.Mark()
	holdTrue(t, b, head(t, p(f(g(v(0))), v(0))), l(v(0), n(3)), l(f(g(n(3))), n(3)), l(n(3)), 1)
	if !b.Undo(mark) || b.Mark() != mark || !term.Same(b.Walk(v(1)), v(1)) || !term.Same(b.Walk(v(2)), v(2)) {
		t.Errorf("P15.1: behind Undo: %d are set, %s", b.Mark(), show(told(b, 3)))
	}
	holdTrue(t, b, head(t, p(v(0), f(v(0)))), l(n(3), v(0)), l(n(3), f(n(3))), l(n(3)), 0)
}
