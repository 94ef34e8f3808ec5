package bind_test

import (
	"math"
	"slices"
	"strings"
	"testing"

	"sizar/api"
	"sizar/bind"
	"sizar/term"
)

// mostVars is how many variables there may be.
const mostVars = 65536

// v, n, at and f make terms: a variable, a number, an atom, and a name with Args.
func v(number int64) term.Term { return term.Var(number) }

func n(number int64) term.Term { return term.Int(number) }

func at(name string) term.Term { return term.Atom(name) }

func f(args ...term.Term) term.Term { return term.Comp("f", args...) }

// chain makes a term so deep with one at its end.
func chain(deep int, last term.Term) term.Term {
	for range deep - 1 {
		last = f(last)
	}
	return last
}

// wide makes a term of so many, of which the last one from the left is given, not deeper than 6.
func wide(count int, last term.Term) term.Term {
	if count == 1 {
		return last
	}
	var args []term.Term
	for left := count - 1; left > 0; {
		// No Arg is greater than the eighth part of what is left, so that eight of them hold it all.
		size := (left + api.MaxArity - len(args) - 1) / (api.MaxArity - len(args))
		left -= size
		inner := at("b")
		if left == 0 {
			inner = last
		}
		args = append(args, wide(size, inner))
	}
	return f(args...)
}

// endless makes a term that has itself among its Args.
func endless() term.Term {
	args := []term.Term{n(1), at("a"), v(0)}
	args[1] = term.Term{Kind: 2, Name: "f", Args: args}
	return args[1]
}

// bad are terms that may not be.
func bad() []term.Term {
	l := []term.Term{
		v(-1), v(math.MaxInt32 + 1), v(math.MinInt64), v(math.MaxInt64), {Name: "a"}, {Args: []term.Term{n(1)}},
		{Kind: 1, Name: "a"}, {Kind: 1, Args: []term.Term{n(1)}}, {Kind: 2, N: 1, Name: "a"}, {Kind: 3}, {Kind: -1}, {Kind: math.MaxInt},
		at("\x00"), at(strings.Repeat("a", api.MaxAtom+1)), f(slices.Repeat([]term.Term{n(1)}, api.MaxArity+1)...),
		chain(api.MaxDepth+1, n(1)), wide(api.MaxCells+1, n(1)), endless(),
	}
	twice := n(1)
	for range 60 {
		twice = f(twice, twice)
	}
	return append(l, twice)
}

// strange are terms that may not be, or have numbers that so many variables do not have.
func strange(vars int) []term.Term {
	l := bad()
	for _, x := range []term.Term{v(int64(vars)), v(int64(vars) + 1), v(math.MaxInt32)} {
		l = append(l, x, f(x), f(n(1), n(2), f(at("a"), x), n(3)), chain(api.MaxDepth, x), wide(api.MaxCells, x), term.List([]term.Term{n(1)}, x))
	}
	return l
}

// fresh makes Binds with so many variables.
func fresh(t *testing.T, vars int) *bind.Binds {
	t.Helper()
	b := bind.New()
	for i := range vars {
		holdFresh(t, b, int64(i))
	}
	return b
}

// holdFresh holds what Fresh makes against the variable that it should.
func holdFresh(t *testing.T, b *bind.Binds, number int64) {
	t.Helper()
	if x, ok := b.Fresh(); !ok || !term.Same(x, v(number)) || b.Len() != int(number)+1 {
		t.Fatalf("P11.1: Fresh: %v, %v, Len %d, not %d", x, ok, b.Len(), number)
	}
}

// holdSet holds what Set answers against what it should.
func holdSet(t *testing.T, b *bind.Binds, number int64, x term.Term, want api.Errno) {
	t.Helper()
	mark, vars := b.Mark(), b.Len()
	if e := b.Set(number, x); e != want {
		t.Errorf("P11.1: Set(%d, ..): %d, not %d", number, e, want)
	}
	if want == api.OK {
		mark++
	}
	if b.Mark() != mark || b.Len() != vars {
		t.Errorf("P11.1: behind Set(%d, ..): Mark %d, not %d; Len %d, not %d", number, b.Mark(), mark, b.Len(), vars)
	}
}

// holdWalk holds what Walk answers against what it should.
func holdWalk(t *testing.T, b *bind.Binds, x, want term.Term) {
	t.Helper()
	if got := b.Walk(x); !term.Same(got, want) {
		t.Errorf("P11.1: Walk(%v): %v, not %v", x, got, want)
	}
}

// holdWhole holds what Whole answers against what it should.
func holdWhole(t *testing.T, b *bind.Binds, x, want term.Term) {
	t.Helper()
	if got, e := b.Whole(x); !term.Same(got, want) || e != api.OK {
		t.Errorf("P11.1: Whole(%v): %v, %d, not %v", x, got, e, want)
	}
}

// holdNotWhole holds what Whole answers of what cannot be made whole.
func holdNotWhole(t *testing.T, b *bind.Binds, what string, x term.Term, want api.Errno) {
	t.Helper()
	if got, e := b.Whole(x); got.Kind != 0 || got.N != 0 || got.Name != "" || got.Args != nil || e != want {
		t.Errorf("P11.1, R2: Whole of %s: %v, %d, not %d", what, got, e, want)
	}
}

// holdHas holds what Has answers against what it should.
func holdHas(t *testing.T, b *bind.Binds, number int64, in term.Term, most int, has bool, many int) {
	t.Helper()
	if got, count := b.Has(number, in, most); got != has || count != many {
		t.Errorf("P11.1: Has(%d, .., %d): %v, %d, not %v, %d", number, most, got, count, has, many)
	}
}

// holdUndo holds what Undo answers of a mark that there is.
func holdUndo(t *testing.T, b *bind.Binds, mark int) {
	t.Helper()
	vars := b.Len()
	if !b.Undo(mark) || b.Mark() != mark || b.Len() != vars {
		t.Errorf("P11.1: Undo(%d): Mark %d, Len %d", mark, b.Mark(), b.Len())
	}
}

func TestExamples(t *testing.T) {
	b := bind.New()
	holdFresh(t, b, 0)
	holdSet(t, b, 0, at("a"), api.OK)
	holdWalk(t, b, v(0), at("a"))
}

func TestNew(t *testing.T) {
	b := bind.New()
	if b.Len() != 0 || b.Mark() != 0 {
		t.Errorf("P11.1: New: Len %d, Mark %d", b.Len(), b.Mark())
	}
	holdSet(t, b, 0, n(1), api.EARG)
	holdNotWhole(t, b, "a variable of none", v(0), api.EARG)
	holdHas(t, b, 0, v(0), 9, false, 0)
	holdWalk(t, b, v(0), v(0))
	holdWhole(t, b, f(n(1), at("a")), f(n(1), at("a")))
	holdHas(t, b, 0, f(n(1), at("a")), 9, false, 3)
	holdUndo(t, b, 0)
	// What one is told another is not.
	c := bind.New()
	holdFresh(t, b, 0)
	holdSet(t, b, 0, n(1), api.OK)
	if c.Len() != 0 || c.Mark() != 0 {
		t.Errorf("R5: another one: Len %d, Mark %d", c.Len(), c.Mark())
	}
	holdFresh(t, c, 0)
	holdWalk(t, c, v(0), v(0))
}

func TestFreshAtTheLimit(t *testing.T) {
	b := fresh(t, mostVars)
	for range 3 {
		if x, ok := b.Fresh(); ok || x.Kind != 0 || x.N != 0 || x.Name != "" || x.Args != nil || b.Len() != mostVars {
			t.Errorf("P11.1, R2: Fresh past the limit: %v, %v, Len %d", x, ok, b.Len())
		}
	}
	holdSet(t, b, mostVars, n(1), api.EARG)
	holdSet(t, b, mostVars-1, v(mostVars), api.EARG)
	for i := range int64(mostVars) {
		holdSet(t, b, i, n(i), api.OK)
	}
	holdWalk(t, b, v(0), n(0))
	holdWalk(t, b, v(mostVars-1), n(mostVars-1))
	holdUndo(t, b, mostVars-1)
	holdWalk(t, b, v(mostVars-1), v(mostVars-1))
	holdUndo(t, b, 0)
	if _, ok := b.Fresh(); ok {
		t.Error("P11.1: Fresh past the limit, behind Undo")
	}
}

func TestSetOfWhatMayNotBe(t *testing.T) {
	b := fresh(t, 4)
	holdSet(t, b, 0, at("a"), api.OK)
	holdSet(t, b, 1, f(v(2)), api.OK)
	for _, number := range []int64{-1, 4, 5, mostVars, math.MaxInt32, math.MaxInt64, math.MinInt64, 1 << 32} {
		holdSet(t, b, number, n(1), api.EARG)
		holdSet(t, b, number, v(3), api.EARG)
		holdSet(t, b, number, v(number), api.EARG)
	}
	for _, x := range strange(4) {
		holdSet(t, b, 3, x, api.EARG)
		// It is asked ahead of all else: 0 stands for something, and 2 would stand in itself.
		holdSet(t, b, 0, x, api.EARG)
		if len(x.Args) < api.MaxArity {
			holdSet(t, b, 2, f(v(1), x), api.EARG)
		}
		holdSet(t, b, -1, x, api.EARG)
	}
	for i, want := range []term.Term{at("a"), f(v(2)), v(2), v(3)} {
		holdWalk(t, b, v(int64(i)), want)
	}
}

func TestSetOfOneThatIsSet(t *testing.T) {
	b := fresh(t, 4)
	l := []term.Term{n(0), at("a"), f(v(3))}
	for i, x := range l {
		holdSet(t, b, int64(i), x, api.OK)
	}
	for i, x := range l {
		// Also of what it stands for already, or what it would stand in itself with.
		for _, y := range []term.Term{n(7), x, v(3), v(int64(i)), f(v(int64(i)))} {
			holdSet(t, b, int64(i), y, api.EPERM)
		}
		holdWalk(t, b, v(int64(i)), x)
	}
	// One that stands for another variable, of which nothing is known, is set too.
	b = fresh(t, 2)
	holdSet(t, b, 0, v(1), api.OK)
	holdSet(t, b, 0, v(1), api.EPERM)
	holdSet(t, b, 0, v(0), api.EPERM)
	holdSet(t, b, 0, n(1), api.EPERM)
	holdSet(t, b, 1, n(1), api.OK)
}

func TestSetInItself(t *testing.T) {
	b := fresh(t, 6)
	holdSet(t, b, 0, v(0), api.ETYPE)
	holdSet(t, b, 0, f(v(0)), api.ETYPE)
	for place := range api.MaxArity {
		args := slices.Repeat([]term.Term{v(5)}, api.MaxArity)
		args[place] = v(0)
		holdSet(t, b, 0, f(args...), api.ETYPE)
		holdSet(t, b, 0, f(f(args...), f(n(1))), api.ETYPE)
	}
	holdSet(t, b, 0, chain(api.MaxDepth, v(0)), api.ETYPE)
	holdSet(t, b, 0, wide(api.MaxCells, v(0)), api.ETYPE)
	holdSet(t, b, 0, term.List([]term.Term{n(1)}, v(0)), api.ETYPE)
	// By others: 1 stands for 2, which stands for one that has 3, which stands for 4.
	holdSet(t, b, 1, v(2), api.OK)
	holdSet(t, b, 2, f(n(1), f(v(3), at("a"))), api.OK)
	holdSet(t, b, 3, v(4), api.OK)
	for _, x := range []term.Term{v(4), v(3), v(2), v(1), f(v(3)), f(v(2)), f(n(1), n(2), f(v(1)))} {
		holdSet(t, b, 4, x, api.ETYPE)
	}
	// What only names a variable that stands for something else does not stand in itself.
	holdSet(t, b, 5, f(v(1), v(1)), api.OK)
	holdSet(t, b, 0, f(v(5), v(1)), api.OK)
	holdSet(t, b, 4, f(v(0)), api.ETYPE)
	holdSet(t, b, 4, v(5), api.ETYPE)
	holdSet(t, b, 4, n(4), api.OK)
	holdWhole(t, b, v(1), f(n(1), f(n(4), at("a"))))
}

func TestSetOfTwoForEachOther(t *testing.T) {
	b := fresh(t, 3)
	holdSet(t, b, 0, v(1), api.OK)
	holdSet(t, b, 1, v(0), api.ETYPE)
	holdSet(t, b, 1, v(2), api.OK)
	holdSet(t, b, 2, v(0), api.ETYPE)
	holdSet(t, b, 2, v(1), api.ETYPE)
	holdUndo(t, b, 1)
	// With what stood between gone, it may be.
	holdSet(t, b, 2, v(0), api.OK)
	holdSet(t, b, 1, v(2), api.ETYPE)
	holdWalk(t, b, v(2), v(1))
}

func TestSetAtTheLimits(t *testing.T) {
	b := fresh(t, 3)
	holdSet(t, b, 0, chain(api.MaxDepth, v(2)), api.OK)
	holdSet(t, b, 1, wide(api.MaxCells, v(2)), api.OK)
	holdWhole(t, b, v(0), chain(api.MaxDepth, v(2)))
	holdWhole(t, b, v(1), wide(api.MaxCells, v(2)))
	// What Whole would make may be too great: it may be stood for.
	holdSet(t, b, 2, f(n(1), n(2)), api.OK)
	holdNotWhole(t, b, "too deep a one", v(0), api.ECELLS)
	holdNotWhole(t, b, "too great a one", v(1), api.ECELLS)
	holdNotWhole(t, b, "one that has it", f(v(1)), api.ECELLS)
	holdWalk(t, b, v(0), chain(api.MaxDepth, v(2)))
}

func TestWalk(t *testing.T) {
	b := fresh(t, 7)
	// The way ahead is set from behind, from ahead, and from within.
	holdSet(t, b, 5, v(6), api.OK)
	holdSet(t, b, 0, v(1), api.OK)
	holdSet(t, b, 1, v(2), api.OK)
	holdSet(t, b, 4, v(5), api.OK)
	for i, want := range []int64{2, 2, 2, 3, 6, 6, 6} {
		holdWalk(t, b, v(int64(i)), v(want))
	}
	holdSet(t, b, 2, v(4), api.OK)
	for i, want := range []int64{6, 6, 6, 3, 6, 6, 6} {
		holdWalk(t, b, v(int64(i)), v(want))
	}
	holdSet(t, b, 6, f(v(3), n(1)), api.OK)
	holdSet(t, b, 3, at("a"), api.OK)
	for i := range int64(7) {
		if i != 3 {
			holdWalk(t, b, v(i), f(v(3), n(1)))
		}
	}
	// What is no variable is itself, whatever stands in it; also of numbers alike.
	for _, x := range []term.Term{n(0), n(6), n(-1), at("a"), at("[]"), f(v(3)), f(v(0), f(v(6))), term.List([]term.Term{v(3)}, v(0)), v(7), v(math.MaxInt32)} {
		holdWalk(t, b, x, x)
	}
}

func TestWalkOfWhatMayNotBe(t *testing.T) {
	b := fresh(t, 2)
	holdSet(t, b, 0, at("a"), api.OK)
	l := append(bad(), term.Term{Name: "x"}, term.Term{Args: []term.Term{v(0)}}, term.Term{Kind: 3, N: 0})
	for _, x := range l {
		got := b.Walk(x)
		// What is endless can't be held against another all the way in: its Args are to be the same ones.
		alike := got.Kind == x.Kind && got.N == x.N && got.Name == x.Name && len(got.Args) == len(x.Args) && (len(x.Args) == 0 || &got.Args[0] == &x.Args[0])
		if !alike {
			t.Errorf("P11.1: Walk of what may not be, Kind %d, N %d, Name %q: Kind %d, N %d, Name %q", x.Kind, x.N, x.Name, got.Kind, got.N, got.Name)
		}
	}
	holdWalk(t, b, term.Term{Args: []term.Term{}}, at("a"))
}

func TestWhole(t *testing.T) {
	b := fresh(t, 6)
	holdSet(t, b, 0, f(v(1), v(2), v(1)), api.OK)
	holdSet(t, b, 1, v(3), api.OK)
	holdSet(t, b, 3, term.Comp("g", n(3), v(4)), api.OK)
	three := term.Comp("g", n(3), v(4))
	holdWhole(t, b, v(0), f(three, v(2), three))
	holdWhole(t, b, v(1), three)
	holdWhole(t, b, f(f(v(1)), n(1), v(5)), f(f(three), n(1), v(5)))
	holdWhole(t, b, term.List([]term.Term{v(2), v(1)}, v(3)), term.List([]term.Term{v(2), three}, three))
	for _, x := range []term.Term{v(2), v(4), v(5), n(0), n(math.MinInt64), at("a"), at(""), f(v(2), f(v(5)), n(1))} {
		holdWhole(t, b, x, x)
	}
	holdSet(t, b, 4, at("[]"), api.OK)
	holdWhole(t, b, v(0), f(term.Comp("g", n(3), at("[]")), v(2), term.Comp("g", n(3), at("[]"))))
	for _, x := range strange(6) {
		holdNotWhole(t, b, "what may not be", x, api.EARG)
		// Too great a one it would be, too: EARG is named first.
		holdNotWhole(t, b, "what may not be within", f(chain(api.MaxDepth-1, v(0)), x), api.EARG)
	}
}

func TestWholeAtTheLimits(t *testing.T) {
	for _, deep := range []int{1, 2, 30, api.MaxDepth - 1, api.MaxDepth} {
		b := fresh(t, 2)
		holdSet(t, b, 0, chain(deep, v(1)), api.OK)
		// Within that, there is room for so much more.
		holdWhole(t, b, chain(api.MaxDepth-deep+1, v(0)), chain(api.MaxDepth, v(1)))
		if deep > 1 {
			holdNotWhole(t, b, "too deep a one", chain(api.MaxDepth-deep+2, v(0)), api.ECELLS)
			holdNotWhole(t, b, "too deep a one at the right", f(n(1), f(n(2), chain(api.MaxDepth-deep, v(0)))), api.ECELLS)
		}
	}
	for _, size := range []int{1, 2, 700, api.MaxCells - 1, api.MaxCells} {
		b := fresh(t, 2)
		holdSet(t, b, 0, wide(size, v(1)), api.OK)
		holdWhole(t, b, wide(api.MaxCells-size+1, v(0)), wide(api.MaxCells-size+1, wide(size, v(1))))
		if size > 1 {
			holdNotWhole(t, b, "too great a one", wide(api.MaxCells-size+2, v(0)), api.ECELLS)
		}
	}
	// Each time it stands there counts.
	b := fresh(t, 1)
	holdSet(t, b, 0, wide(285, n(1)), api.OK)
	seven := slices.Repeat([]term.Term{v(0)}, 7)
	holdWhole(t, b, f(append(seven, f(n(1), n(2), n(3)))...), f(append(slices.Repeat([]term.Term{wide(285, n(1))}, 7), f(n(1), n(2), n(3)))...))
	holdNotWhole(t, b, "one and one too many", f(append(seven, f(n(1), n(2), n(3), n(4)))...), api.ECELLS)
}

func TestHas(t *testing.T) {
	b := fresh(t, 6)
	holdSet(t, b, 0, f(v(1), v(2)), api.OK)
	holdSet(t, b, 1, v(3), api.OK)
	holdSet(t, b, 3, f(v(4), n(1)), api.OK)
	// One by one: f, 0's f, 1's f, 4, 1, 2, f, 2, 5.
	x := f(v(0), f(v(2)), v(5))
	for number, place := range map[int64]int{4: 4, 2: 6, 5: 9} {
		for most := range 12 {
			if most+1 <= place {
				holdHas(t, b, number, x, most, true, most+1)
			} else {
				holdHas(t, b, number, x, most, true, place)
			}
		}
		holdHas(t, b, number, x, math.MaxInt, true, place)
		holdHas(t, b, number, x, math.MaxInt-1, true, place)
	}
	// Those that stand for something stand nowhere, nor do those that were not given, nor numbers alike.
	for _, number := range []int64{0, 1, 3, 6, 7, -1, math.MaxInt64, math.MinInt64} {
		for most := range 9 {
			holdHas(t, b, number, x, most, true, most+1)
		}
		for _, most := range []int{9, 10, math.MaxInt - 1, math.MaxInt} {
			holdHas(t, b, number, x, most, false, 9)
		}
	}
	for _, most := range []int{0, -1, -2, -7, math.MinInt} {
		holdHas(t, b, 4, x, most, true, 1)
		holdHas(t, b, 5, v(5), most, true, 1)
		holdHas(t, b, 4, n(1), most, true, 1)
	}
	for _, y := range []term.Term{n(4), at("4"), v(5)} {
		holdHas(t, b, 4, y, 1, false, 1)
		holdHas(t, b, 4, y, 0, true, 1)
	}
	holdHas(t, b, 4, v(4), 1, true, 1)
	holdHas(t, b, 4, v(3), 9, true, 2)
	holdHas(t, b, 4, v(1), 9, true, 2)
	// Looked at is what a variable stands for in the end: the way there counts nothing.
	c := fresh(t, 4)
	for i := range int64(3) {
		holdSet(t, c, i, v(i+1), api.OK)
	}
	holdHas(t, c, 3, v(0), 1, true, 1)
	holdHas(t, c, 2, v(0), 1, false, 1)
	holdHas(t, c, 3, f(v(2)), 9, true, 2)
}

func TestHasInWhatMayNotBe(t *testing.T) {
	b := fresh(t, 3)
	holdSet(t, b, 0, at("a"), api.OK)
	for _, x := range strange(3) {
		for _, most := range []int{math.MinInt, -1, 0, 1, 9, math.MaxInt} {
			for _, number := range []int64{0, 1, 3, -1, x.N} {
				holdHas(t, b, number, x, most, false, 0)
			}
		}
		// Also where it would be found ahead of that, or too much be counted.
		holdHas(t, b, 1, f(v(1), x), 9, false, 0)
		holdHas(t, b, 1, f(v(2), x), 0, false, 0)
	}
}

func TestUndo(t *testing.T) {
	b := fresh(t, 5)
	if b.Mark() != 0 {
		t.Errorf("P11.1: Mark of none: %d", b.Mark())
	}
	order := []int64{3, 0, 4, 1}
	for i, number := range order {
		holdSet(t, b, number, n(int64(i)), api.OK)
		if b.Mark() != i+1 {
			t.Errorf("P11.1: Mark of %d: %d", i+1, b.Mark())
		}
	}
	for _, mark := range []int{-1, 5, 6, math.MaxInt, math.MinInt} {
		if b.Undo(mark) || b.Mark() != 4 || b.Len() != 5 {
			t.Errorf("P11.1: Undo(%d) of 4", mark)
		}
	}
	for mark := 4; mark >= 0; mark-- {
		holdUndo(t, b, mark)
		for i, number := range order {
			want := n(int64(i))
			if i >= mark {
				want = v(number)
			}
			holdWalk(t, b, v(number), want)
			holdWhole(t, b, f(v(number)), f(want))
		}
		if b.Undo(mark+1) || b.Mark() != mark {
			t.Errorf("P11.1: Undo(%d) of %d", mark+1, mark)
		}
	}
	// What stands for nothing again may be set anew, and Fresh's numbers go on.
	holdFresh(t, b, 5)
	holdSet(t, b, 3, f(v(5)), api.OK)
	holdSet(t, b, 5, v(3), api.ETYPE)
	holdSet(t, b, 0, n(7), api.OK)
	holdWhole(t, b, f(v(3), v(0), v(4)), f(f(v(5)), n(7), v(4)))
	holdUndo(t, b, 0)
	holdSet(t, b, 5, v(3), api.OK)
	holdFresh(t, b, 6)
}

// What some variables stand for within a way is gone with them alone.
func TestUndoWithinAWay(t *testing.T) {
	b := fresh(t, 4)
	holdSet(t, b, 1, v(2), api.OK)
	holdSet(t, b, 0, v(1), api.OK)
	holdSet(t, b, 2, v(3), api.OK)
	holdSet(t, b, 3, at("a"), api.OK)
	holdWalk(t, b, v(0), at("a"))
	holdUndo(t, b, 3)
	holdWalk(t, b, v(0), v(3))
	holdUndo(t, b, 2)
	holdWalk(t, b, v(0), v(2))
	holdHas(t, b, 2, v(0), 1, true, 1)
	holdUndo(t, b, 1)
	holdWalk(t, b, v(0), v(0))
	holdWalk(t, b, v(1), v(2))
	holdUndo(t, b, 0)
	holdWalk(t, b, v(1), v(1))
}

func TestDoubledAgainAndAgain(t *testing.T) {
	const last = 200
	b := fresh(t, last+3)
	for i := range int64(last) {
		holdSet(t, b, i, f(v(i+1), v(i+1)), api.OK)
	}
	holdSet(t, b, last, f(v(0)), api.ETYPE)
	holdSet(t, b, last, v(100), api.ETYPE)
	holdSet(t, b, last+1, f(v(0), v(1)), api.OK)
	holdSet(t, b, last+2, f(v(0)), api.OK)
	for i := range int64(last) {
		if last-i < 10 {
			x, e := b.Whole(v(i))
			if e != api.OK || term.Size(x) != 1<<(last-i+1)-1 || !slices.Equal(term.Vars(x), []int64{last}) {
				t.Errorf("P11.1: Whole of %d: %d, of %d", i, e, term.Size(x))
			}
		} else {
			holdNotWhole(t, b, "too great a one", v(i), api.ECELLS)
		}
	}
	// The first found is the deepest at the left; of what is not found, all is counted.
	holdHas(t, b, last, v(0), math.MaxInt, true, last+1)
	holdHas(t, b, last, v(0), last+1, true, last+1)
	holdHas(t, b, last, v(0), last-1, true, last)
	for up := range 62 {
		many := 1<<(up+1) - 1
		x := v(int64(last - up))
		holdHas(t, b, last+9, x, math.MaxInt, false, many)
		holdHas(t, b, last+9, x, many, false, many)
		holdHas(t, b, last+9, x, many-1, true, many)
		if up < 60 {
			// What stands behind it is found behind all of it.
			holdHas(t, b, last+9, f(x, x), math.MaxInt, false, 2*many+1)
			holdHas(t, b, last+2, f(x, n(1)), math.MaxInt, false, many+2)
		}
	}
	for _, most := range []int{1000, 1 << 20, 1 << 40, math.MaxInt - 1} {
		holdHas(t, b, last+9, v(0), most, true, most+1)
	}
	// One more than the greatest number is none: the greatest is told in its place.
	holdHas(t, b, last+9, v(0), math.MaxInt, true, math.MaxInt)
}

func TestFoundBehindWhatIsDoubled(t *testing.T) {
	b := fresh(t, 60)
	for i := range int64(50) {
		holdSet(t, b, i, f(v(i+1), v(i+1)), api.OK)
	}
	holdSet(t, b, 50, at("a"), api.OK)
	holdSet(t, b, 51, f(v(0), v(52)), api.OK)
	holdSet(t, b, 53, f(v(51), v(51)), api.OK)
	many := 1<<51 - 1
	holdHas(t, b, 52, v(51), math.MaxInt, true, many+2)
	holdHas(t, b, 52, v(53), math.MaxInt, true, many+3)
	holdHas(t, b, 52, f(v(0), v(1), v(53)), math.MaxInt, true, 1+many+(many-1)/2+many+3)
	holdHas(t, b, 54, v(53), math.MaxInt, false, 2*many+5)
	holdHas(t, b, 54, f(v(53), v(54), v(53)), math.MaxInt, true, 2*many+7)
	// What leads to it counts as it does by itself.
	holdSet(t, b, 55, v(0), api.OK)
	holdSet(t, b, 56, v(55), api.OK)
	holdHas(t, b, 54, f(v(56), v(55), v(0)), math.MaxInt, false, 3*many+1)
}

func TestDeeperAndDeeper(t *testing.T) {
	b := fresh(t, mostVars)
	const last = mostVars - 1
	for i := range int64(last) {
		if e := b.Set(i, f(f(f(f(n(1), v(i+1)))))); e != api.OK {
			t.Fatalf("P11.1: Set(%d, ..): %d", i, e)
		}
	}
	holdSet(t, b, last, v(0), api.ETYPE)
	holdSet(t, b, last, f(n(1), v(0)), api.ETYPE)
	holdNotWhole(t, b, "too deep a one", v(0), api.ECELLS)
	holdHas(t, b, last, v(0), math.MaxInt, true, 5*last+1)
	holdHas(t, b, last, f(v(0)), 5*last, true, 5*last+1)
	holdHas(t, b, -1, v(0), math.MaxInt, false, 5*last+1)
	holdWhole(t, b, v(last-2), f(f(f(f(n(1), f(f(f(f(n(1), v(last))))))))))
	holdUndo(t, b, 0)
}

func TestLongWays(t *testing.T) {
	up, down := fresh(t, mostVars), fresh(t, mostVars)
	const last = mostVars - 1
	for i := range int64(last) {
		if e := up.Set(i, v(i+1)); e != api.OK {
			t.Fatalf("P11.1: Set(%d, ..): %d", i, e)
		}
		if e := down.Set(last-1-i, v(last-i)); e != api.OK {
			t.Fatalf("P11.1: Set(%d, ..): %d", last-1-i, e)
		}
	}
	for _, b := range []*bind.Binds{up, down} {
		holdWalk(t, b, v(0), v(last))
		holdSet(t, b, last, v(0), api.ETYPE)
		holdSet(t, b, last, at("a"), api.OK)
		holdWhole(t, b, f(v(0), v(1000), v(last)), f(at("a"), at("a"), at("a")))
		holdHas(t, b, 5, f(v(0), v(1)), 9, false, 3)
	}
}

func TestNoCallChangesATerm(t *testing.T) {
	b := fresh(t, 4)
	holdSet(t, b, 0, n(7), api.OK)
	room := append(make([]term.Term, 0, 9), v(0), f(v(0), v(2)), v(3))
	held := slices.Clone(room[:9])
	x := term.Term{Kind: 2, Name: "f", Args: room}
	holdSet(t, b, 1, x, api.OK)
	for range 2 {
		holdWhole(t, b, x, f(n(7), f(n(7), v(2)), v(3)))
		holdWhole(t, b, v(1), f(n(7), f(n(7), v(2)), v(3)))
		holdWalk(t, b, v(1), f(v(0), f(v(0), v(2)), v(3)))
		holdHas(t, b, 3, x, 99, true, 6)
		holdHas(t, b, 2, f(v(1)), 4, true, 5)
		holdSet(t, b, 2, x, api.ETYPE)
		// What is answered whole is nobody else's.
		w, _ := b.Whole(v(1))
		over(w)
	}
	if !slices.EqualFunc(room[:9], held, term.Same) {
		t.Errorf("R4: what was handed in is %v, not %v", room[:9], held)
	}
	y, _ := b.Whole(f(n(1), f(at("a"))))
	z := f(n(1), f(at("a")))
	over(y)
	holdWhole(t, b, z, f(n(1), f(at("a"))))
}

// over writes over all Args of a term, spare room too.
func over(x term.Term) {
	args := x.Args[:cap(x.Args)]
	for i := range args {
		over(args[i])
		args[i] = at("over")
	}
}
