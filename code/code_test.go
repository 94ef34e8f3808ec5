package code_test

import (
	"fmt"
	"math"
	"slices"
	"strings"
	"testing"

	"sizar/api"
	"sizar/code"
	"sizar/term"
)

// v, n, at, and the names: terms.
func v(number int64) term.Term { return term.Var(number) }

func n(number int64) term.Term { return term.Int(number) }

func at(name string) term.Term { return term.Atom(name) }

func p(args ...term.Term) term.Term { return term.Comp("p", args...) }

func f(args ...term.Term) term.Term { return term.Comp("f", args...) }

func g(args ...term.Term) term.Term { return term.Comp("g", args...) }

// first and the others make steps.
func first(reg, slot int) code.Ins { return code.Ins{Op: "var", A: reg, B: slot} }

func val(reg, slot int) code.Ins { return code.Ins{Op: "val", A: reg, B: slot} }

func num(reg int, number int64) code.Ins { return code.Ins{Op: "int", A: reg, N: number} }

func atom(reg int, name string) code.Ins { return code.Ins{Op: "atom", A: reg, Name: name} }

func comp(reg, args, from int, name string) code.Ins {
	return code.Ins{Op: "comp", A: reg, B: args, C: from, Name: name}
}

// steps makes a code of as many registers as it has steps.
func steps(arity, slots int, l ...code.Ins) code.Code {
	return code.Code{Arity: arity, Slots: slots, Regs: len(l), L: l}
}

// chain makes a term so deep with one at its end.
func chain(deep int, last term.Term) term.Term {
	for range deep - 1 {
		last = f(last)
	}
	return last
}

// great makes a term of so many, not deeper than 6, with the terms that are told for it at its leaves.
func great(count int, leaf func() term.Term) term.Term {
	if count == 1 {
		return leaf()
	}
	rest := count - 1
	args := make([]term.Term, min(rest, api.MaxArity))
	for i := range args {
		share := (rest + len(args) - 1 - i) / (len(args) - i)
		rest -= share
		args[i] = great(share, leaf)
	}
	return f(args...)
}

// always tells the same.
func always(x term.Term) func() term.Term { return func() term.Term { return x } }

// counted tells one variable after another.
func counted(from int64) func() term.Term {
	from--
	return func() term.Term {
		from++
		return v(from)
	}
}

// bad are terms that may not be.
func bad() []term.Term {
	endless := []term.Term{n(1), at("a"), v(0)}
	endless[1] = term.Term{Kind: 2, Name: "f", Args: endless}
	twice := at("a")
	for range 70 {
		twice = f(twice, twice)
	}
	l := []term.Term{
		{Kind: -1}, {Kind: 3}, {Kind: 3, Args: endless}, {Name: "a"}, {Args: []term.Term{v(0)}}, v(-1), v(math.MinInt64), v(1 << 31), v(math.MaxInt64),
		{Kind: 1, Name: "a"}, {Kind: 1, Args: []term.Term{n(1)}}, {Kind: 2, N: 1, Name: "a"}, {Kind: 2, N: 1, Name: "f", Args: []term.Term{v(0)}},
		at("\x00"), at("\xff"), at(strings.Repeat("a", api.MaxAtom+1)), term.Comp("\r", v(0)), f(slices.Repeat([]term.Term{n(1)}, api.MaxArity+1)...),
		chain(api.MaxDepth+1, v(0)), great(api.MaxCells+1, always(at("a"))), endless[1], twice,
	}
	for _, x := range slices.Clone(l) {
		l = append(l, f(x), f(at("a"), x), f(v(0), f(x, v(0))))
	}
	return l
}

// show tells what is told, a great one not to its end.
func show(x any) string {
	text := fmt.Sprintf("%+v", x)
	return text[:min(len(text), 300)]
}

// equal tells whether two codes are alike.
func equal(c, d code.Code) bool {
	return c.Arity == d.Arity && c.Slots == d.Slots && c.Regs == d.Regs && slices.Equal(c.L, d.L)
}

// nothing tells whether a code is zero.
func nothing(c code.Code) bool { return equal(c, code.Code{}) }

// none tells whether a term is zero.
func none(x term.Term) bool {
	return x.Kind == 0 && x.N == 0 && x.Name == "" && len(x.Args) == 0
}

// copied makes a code anew.
func copied(c code.Code) code.Code {
	c.L = slices.Clone(c.L)
	return c
}

// holdHead holds what Head makes of a head, and that Back makes the head of it, if its variables are 0, 1, ..
func holdHead(t *testing.T, head term.Term, want code.Code) {
	t.Helper()
	got, e := code.Head(head)
	if e != api.OK || !equal(got, want) {
		t.Errorf("P15.1: Head(%s): %s, %d; not %s", show(head), show(got), e, show(want))
	}
	if !code.Good(got) || !code.Good(want) {
		t.Errorf("P15.1: Good(%s): false", show(got))
	}
	back, e := code.Back(got, head.Name)
	if e != api.OK || !term.Same(back, head) {
		t.Errorf("P15.1: Back(%s, %s): %s, %d; not %s", show(got), head.Name, show(back), e, show(head))
	}
}

// holdBad holds that a code may not be.
func holdBad(t *testing.T, what string, c code.Code) {
	t.Helper()
	if code.Good(c) {
		t.Errorf("P15.1: Good of %s: %s: true", what, show(c))
	}
	if x, e := code.Back(c, "p"); e != api.EARG || !none(x) {
		t.Errorf("P15.1, R2: Back of %s: %s: %s, %d", what, show(c), show(x), e)
	}
	args := slices.Repeat([]term.Term{v(0)}, min(max(c.Arity, 0), api.MaxArity+1))
	holdRefused(t, what, fresh(t, 1), c, args, api.EARG)
}

func TestTheExample(t *testing.T) {
	holdHead(t, p(v(0), f(v(0))), steps(2, 1, first(0, 0), comp(1, 1, 2, "f"), val(2, 0)))
}

func TestHeads(t *testing.T) {
	for _, c := range []struct {
		head term.Term
		want code.Code
	}{
		{at("p"), steps(0, 0)},
		{at(""), steps(0, 0)},
		{at("[]"), steps(0, 0)},
		{p(v(0)), steps(1, 1, first(0, 0))},
		{p(v(0), v(0), v(0)), steps(3, 1, first(0, 0), val(1, 0), val(2, 0))},
		{p(v(0), v(1), v(0), v(2), v(1)), steps(5, 3, first(0, 0), first(1, 1), val(2, 0), first(3, 2), val(4, 1))},
		{p(n(7), n(0), n(math.MinInt64), n(math.MaxInt64)), steps(4, 0, num(0, 7), num(1, 0), num(2, math.MinInt64), num(3, math.MaxInt64))},
		{p(at("a"), at(""), at("p"), at("[]")), steps(4, 0, atom(0, "a"), atom(1, ""), atom(2, "p"), atom(3, "[]"))},
		{p(f(at("a"))), steps(1, 0, comp(0, 1, 1, "f"), atom(1, "a"))},
		{p(term.Comp("", n(1))), steps(1, 0, comp(0, 1, 1, ""), num(1, 1))},
		{p(f(n(1), n(2)), g(n(3))), steps(2, 0, comp(0, 2, 2, "f"), comp(1, 1, 4, "g"), num(2, 1), num(3, 2), num(4, 3))},
		// the Args of the first one's Arg come behind those of the second.
		{p(f(g(n(1)), n(2)), g(f(n(3), n(4)))), steps(2, 0, comp(0, 2, 2, "f"), comp(1, 1, 4, "g"), comp(2, 1, 5, "g"), num(3, 2), comp(4, 2, 6, "f"), num(5, 1), num(6, 3), num(7, 4))},
		{p(f(f(f(v(0))))), steps(1, 1, comp(0, 1, 1, "f"), comp(1, 1, 2, "f"), comp(2, 1, 3, "f"), first(3, 0))},
		{term.Comp(".", at("a"), term.Comp(".", v(0), at("[]"))), steps(2, 1, atom(0, "a"), comp(1, 2, 2, "."), first(2, 0), atom(3, "[]"))},
		{f(slices.Repeat([]term.Term{v(0)}, api.MaxArity)...), steps(8, 1, first(0, 0), val(1, 0), val(2, 0), val(3, 0), val(4, 0), val(5, 0), val(6, 0), val(7, 0))},
		{p(f(slices.Repeat([]term.Term{n(1)}, api.MaxArity)...)), steps(1, 0, comp(0, 8, 1, "f"), num(1, 1), num(2, 1), num(3, 1), num(4, 1), num(5, 1), num(6, 1), num(7, 1), num(8, 1))},
	} {
		holdHead(t, c.head, c.want)
	}
}

// The slots are numbered from left to right, as Vars does; the registers come one depth behind another: so a slot's val may stand to the left of its var.
func TestSlotsAreNumberedByVars(t *testing.T) {
	holdHead(t, p(f(v(0)), v(1)), steps(2, 2, comp(0, 1, 2, "f"), first(1, 1), first(2, 0)))
	holdHead(t, p(f(v(0)), v(0)), steps(2, 1, comp(0, 1, 2, "f"), first(1, 0), val(2, 0)))
	holdHead(t, p(f(f(v(0)), v(1)), g(v(1), v(2)), v(2)), steps(3, 3, comp(0, 2, 3, "f"), comp(1, 2, 5, "g"), first(2, 2), comp(3, 1, 7, "f"), first(4, 1), val(5, 1), val(6, 2), first(7, 0)))
}

func TestHeadOfAnyVariables(t *testing.T) {
	want := steps(3, 3, first(0, 0), comp(1, 2, 3, "f"), first(2, 2), first(3, 1), val(4, 0))
	for _, l := range [][3]int64{{0, 1, 2}, {2, 1, 0}, {7, 3, 5}, {math.MaxInt32, 0, math.MaxInt32 - 1}} {
		got, e := code.Head(p(v(l[0]), f(v(l[1]), v(l[0])), v(l[2])))
		if e != api.OK || !equal(got, want) {
			t.Errorf("P15.1: Head with the variables %v: %s, %d; not %s", l, show(got), e, show(want))
		}
	}
}

func TestHeadOfWhatIsNone(t *testing.T) {
	l := append(bad(), v(0), v(7), v(math.MaxInt32), n(0), n(-1), n(math.MaxInt64))
	for i, x := range l {
		if c, e := code.Head(x); e != api.EARG || !nothing(c) {
			t.Errorf("P15.1, R2: Head of the wrong one of number %d: %s, %d", i, show(c), e)
		}
	}
}

func TestGreatHeads(t *testing.T) {
	// a name between others and the whole are no more than the greatest.
	name := strings.Repeat("n", api.MaxAtom)
	for _, x := range []term.Term{
		great(api.MaxCells, counted(0)), great(api.MaxCells, always(v(0))), great(api.MaxCells, always(n(1))), great(api.MaxCells, always(at(name))), chain(api.MaxDepth, v(0)), term.Comp(name, term.Comp(name, v(0))),
	} {
		c, e := code.Head(x)
		if e != api.OK || !code.Good(c) || c.Regs != term.Size(x)-1 || len(c.L) != c.Regs || c.Slots != len(term.Vars(x)) || c.Arity != len(x.Args) {
			t.Errorf("P15.1: Head(%s): %s, %d", show(x), show(c), e)
		}
		if y, e := code.Back(c, x.Name); e != api.OK || !term.Same(x, y) {
			t.Errorf("P15.1: Back(%s): %s, %d; not %s", show(c), show(y), e, show(x))
		}
	}
}

func TestHeadKeepsAndSharesNothing(t *testing.T) {
	inner := []term.Term{v(3), at("a")}
	args := append(make([]term.Term, 0, 9), v(3), f(inner...), n(7))
	x := term.Term{Kind: 2, Name: "p", Args: args}
	want := steps(3, 1, first(0, 0), comp(1, 2, 3, "f"), num(2, 7), val(3, 0), atom(4, "a"))
	c, _ := code.Head(x)
	d, _ := code.Head(x)
	if !slices.EqualFunc(args, []term.Term{v(3), f(inner...), n(7)}, term.Same) || slices.ContainsFunc(args[3:9], func(a term.Term) bool { return !none(a) }) {
		t.Errorf("R4: Head changed its term: %s", show(args[:9]))
	}
	clear(args)
	l := c.L[:cap(c.L)]
	for i := range l {
		l[i] = code.Ins{Op: "?"}
	}
	if !equal(d, want) {
		t.Errorf("R4: Head: %s behind a change of another answer, not %s", show(d), show(want))
	}
}

// whole has a step of each kind, and slots that are not numbered by Vars.
func whole() code.Code {
	return steps(5, 3, comp(0, 3, 5, "f"), first(1, 2), first(2, 0), comp(3, 2, 8, "g"), val(4, 0), num(5, 1), val(6, 2), first(7, 1), atom(8, "b"), comp(9, 1, 10, "h"), atom(10, ""))
}

func TestGood(t *testing.T) {
	name := strings.Repeat("n", api.MaxAtom)
	for i, c := range []code.Code{
		{}, whole(), {L: []code.Ins{}},
		steps(1, 0, num(0, math.MinInt64)), steps(1, 0, num(0, math.MaxInt64)), steps(1, 0, atom(0, "")), steps(1, 0, atom(0, name)), steps(1, 0, atom(0, "\t\n ~")), steps(1, 0, comp(0, 1, 1, name), atom(1, "a")), steps(1, 0, comp(0, 1, 1, ""), atom(1, "a")),
		// slots by other numbers than Vars would tell.
		steps(2, 2, first(0, 1), first(1, 0)), steps(3, 2, first(0, 1), first(1, 0), val(2, 1)),
		steps(8, 8, first(0, 7), first(1, 6), first(2, 5), first(3, 4), first(4, 3), first(5, 2), first(6, 1), first(7, 0)),
		steps(1, 0, comp(0, 8, 1, "f"), num(1, 1), num(2, 1), num(3, 1), num(4, 1), num(5, 1), num(6, 1), num(7, 1), num(8, 1)),
	} {
		if !code.Good(c) {
			t.Errorf("P15.1: Good of number %d: %s: false", i, show(c))
		}
	}
}

// long makes a code of so many registers, each the Arg of the one ahead of it, and a variable the last one.
func long(regs int) code.Code {
	var l []code.Ins
	for i := range regs - 1 {
		l = append(l, comp(i, 1, i+1, "f"))
	}
	return steps(1, 1, append(l, first(regs-1, 0))...)
}

// wide makes a code of so many registers, with eight Args each as long as there is room, and different variables at its ends.
func wide(regs int) code.Code {
	given, slots := min(api.MaxArity, regs), 0
	c := code.Code{Arity: given, Regs: regs}
	for i := range regs {
		if args := min(api.MaxArity, regs-given); args > 0 {
			c.L = append(c.L, comp(i, args, given, "f"))
			given += args
			continue
		}
		c.L = append(c.L, first(i, slots))
		slots++
	}
	c.Slots = slots
	return c
}

// What is of more than a term may have, or deeper, is Good, but no head is made of it.
func TestGoodOfMoreThanATermMayBe(t *testing.T) {
	for _, c := range []struct {
		what string
		c    code.Code
		good bool
		back api.Errno
	}{
		{"as deep as may be", long(api.MaxDepth - 1), true, api.OK}, {"one deeper", long(api.MaxDepth), true, api.EARG}, {"far deeper", long(api.MaxCells), true, api.EARG}, {"far deeper, and one more", long(api.MaxCells + 1), false, api.EARG},
		{"as many as may be", wide(api.MaxCells - 1), true, api.OK}, {"one more", wide(api.MaxCells), true, api.EARG}, {"two more", wide(api.MaxCells + 1), false, api.EARG},
	} {
		if code.Good(c.c) != c.good {
			t.Errorf("P15.1: Good of %s: %v", c.what, !c.good)
		}
		x, e := code.Back(c.c, "p")
		if e != c.back || (e == api.OK) == none(x) {
			t.Errorf("P15.1, R2: Back of %s: %s, %d; not %d", c.what, show(x), e, c.back)
		}
		if d, e := code.Head(x); c.back == api.OK && (e != api.OK || d.Regs != c.c.Regs || d.Slots != c.c.Slots) {
			t.Errorf("P15.1: Head of the Back of %s: %s, %d", c.what, show(d), e)
		}
	}
}

func TestGoodOfOtherCounts(t *testing.T) {
	change := func(what string, to func(c *code.Code)) {
		t.Helper()
		c := whole()
		to(&c)
		holdBad(t, what, c)
	}
	for _, many := range []int{math.MinInt, -1, 0, 1, 4, 6, 8, 9, 11, math.MaxInt} {
		change("another Arity", func(c *code.Code) { c.Arity = many })
	}
	for _, many := range []int{math.MinInt, -1, 0, 2, 4, 11, 12, math.MaxInt} {
		change("other Slots", func(c *code.Code) { c.Slots = many })
	}
	for _, many := range []int{math.MinInt, -1, 0, 10, 12, math.MaxInt} {
		change("other Regs", func(c *code.Code) { c.Regs = many })
	}
	for many := range 11 {
		change("too few steps", func(c *code.Code) { c.L = c.L[:many] })
		change("too few steps and Regs", func(c *code.Code) { c.L, c.Regs = c.L[:many], many })
	}
	change("a step more", func(c *code.Code) { c.L = append(c.L, num(11, 1)) })
	change("a step that nobody has", func(c *code.Code) { c.L, c.Regs = append(c.L, num(11, 1)), 12 })
	change("a step's Args behind the end", func(c *code.Code) { c.L[10] = comp(10, 1, 11, "f") })
	holdBad(t, "Arity 9", steps(9, 0, num(0, 1), num(1, 1), num(2, 1), num(3, 1), num(4, 1), num(5, 1), num(6, 1), num(7, 1), num(8, 1)))
	holdBad(t, "nine Args", steps(1, 0, comp(0, 9, 1, "f"), num(1, 1), num(2, 1), num(3, 1), num(4, 1), num(5, 1), num(6, 1), num(7, 1), num(8, 1), num(9, 1)))
	holdBad(t, "no Args", steps(1, 0, comp(0, 0, 1, "f")))
	holdBad(t, "a slot without a register", steps(0, 1))
	holdBad(t, "Arity without a step", steps(1, 0))
}

// What has itself as its Arg is of no term.
func TestGoodOfWhatHasItself(t *testing.T) {
	holdBad(t, "one that has itself", steps(0, 0, comp(0, 1, 0, "f")))
	holdBad(t, "one that has itself and another", steps(0, 0, comp(0, 2, 0, "f"), num(1, 1)))
	holdBad(t, "one behind the end that has itself", steps(1, 0, num(0, 1), comp(1, 1, 1, "f")))
	holdBad(t, "two that have each other", steps(0, 0, comp(0, 1, 1, "f"), comp(1, 1, 0, "f")))
	holdBad(t, "one that has the one ahead", steps(1, 0, comp(0, 1, 1, "f"), comp(1, 1, 0, "f")))
	holdBad(t, "one that two have", steps(2, 0, comp(0, 1, 2, "f"), comp(1, 1, 2, "f"), num(2, 1)))
	holdBad(t, "one that is left out", steps(1, 0, comp(0, 1, 2, "f"), num(1, 1), num(2, 1)))
	holdBad(t, "the second one's Args ahead of the first one's", steps(2, 0, comp(0, 1, 3, "f"), comp(1, 1, 2, "f"), num(2, 1), num(3, 1)))
}

func TestGoodOfOtherSteps(t *testing.T) {
	for reg, in := range whole().L {
		change := func(what string, to func(in *code.Ins)) {
			t.Helper()
			c := whole()
			to(&c.L[reg])
			holdBad(t, what, c)
		}
		for _, other := range []int{math.MinInt, -1, reg - 1, reg + 1, 11, math.MaxInt} {
			change("another A", func(in *code.Ins) { in.A = other })
		}
		for _, op := range []string{"", "Var", "VAL", "int ", "atoms", "com", "str", "\x00"} {
			change("another Op", func(in *code.Ins) { in.Op = op })
		}
		for _, other := range []int{math.MinInt, -1, 11, math.MaxInt} {
			change("a B that may not be", func(in *code.Ins) { in.B = other })
			change("a C that may not be", func(in *code.Ins) { in.C = other })
		}
		for other := range 11 {
			if other != in.C {
				change("another C", func(in *code.Ins) { in.C = other })
			}
			// a val may be of any slot that had its var: here 0 and 2.
			if other != in.B && (in.Op != "val" || other != 0 && other != 2) {
				change("another B", func(in *code.Ins) { in.B = other })
			}
		}
		for _, other := range []int64{math.MinInt64, -1, 1, 1 << 32, math.MaxInt64} {
			if in.Op != "int" {
				change("an N", func(in *code.Ins) { in.N = other })
			}
		}
		for _, name := range []string{"\x00", "\x1f", "\r", "\x7f", "\xff", "\u00e4", "a\x08", strings.Repeat("a", api.MaxAtom+1)} {
			change("a name that may not be", func(in *code.Ins) { in.Name = name })
		}
		if in.Op != "atom" && in.Op != "comp" {
			change("a name", func(in *code.Ins) { in.Name = "a" })
		}
	}
}

func TestGoodOfOtherSlots(t *testing.T) {
	for _, c := range []struct {
		what string
		c    code.Code
	}{
		{"a val ahead of its var", steps(2, 1, val(0, 0), first(1, 0))}, {"a val without a var", steps(1, 1, val(0, 0))}, {"a val of no slot", steps(1, 0, val(0, 0))}, {"two vars of one", steps(2, 1, first(0, 0), first(1, 0))}, {"two vars of one, none of the other", steps(2, 2, first(0, 0), first(1, 0))},
		{"a slot without a var", steps(2, 2, first(0, 1), val(1, 1))}, {"a slot left out", steps(2, 2, first(0, 0), first(1, 2))}, {"a slot below nought", steps(1, 1, first(0, -1))}, {"a val below nought", steps(2, 1, first(0, 0), val(1, -1))}, {"a val past the slots", steps(2, 1, first(0, 0), val(1, 1))},
		{"more slots than vars", steps(2, 2, first(0, 0), val(1, 0))}, {"a var past the slots", steps(2, 1, first(0, 0), first(1, 1))}, {"a var of the greatest number", steps(1, 1, first(0, math.MaxInt))}, {"a val of the least number", steps(2, 1, first(0, 0), val(1, math.MinInt))},
	} {
		holdBad(t, c.what, c.c)
	}
}

func TestBack(t *testing.T) {
	name := strings.Repeat("n", api.MaxAtom)
	inner := []term.Term{f(n(1), v(2), v(1)), v(2), v(0), g(at("b"), term.Comp("h", at(""))), v(0)}
	for _, c := range []struct {
		c    code.Code
		name string
		want term.Term
	}{
		{code.Code{}, "p", at("p")}, {code.Code{}, "", at("")}, {code.Code{}, name, at(name)}, {code.Code{L: []code.Ins{}}, " \t\n~", at(" \t\n~")},
		{whole(), "p", p(inner...)}, {whole(), "", term.Comp("", inner...)}, {whole(), name, term.Comp(name, inner...)}, {whole(), ".", term.Comp(".", inner...)},
		{steps(2, 2, first(0, 1), first(1, 0)), "f", f(v(1), v(0))},
		{steps(1, 0, num(0, math.MinInt64)), "g", g(n(math.MinInt64))},
	} {
		if got, e := code.Back(c.c, c.name); e != api.OK || !term.Same(got, c.want) {
			t.Errorf("P15.1: Back(%s, %q): %s, %d; not %s", show(c.c), c.name, show(got), e, show(c.want))
		}
	}
	for _, c := range []code.Code{{}, whole()} {
		for _, name := range []string{"\x00", "\x1f", "\r", "\x7f", "\x80", "\xff", "a\u00e4", strings.Repeat("a", api.MaxAtom+1)} {
			if x, e := code.Back(c, name); e != api.EARG || !none(x) {
				t.Errorf("P15.1, R2: Back of %s by the name %q: %s, %d", show(c), name, show(x), e)
			}
		}
	}
}

// over writes over all lists of a term, spare room too.
func over(x term.Term) {
	for _, a := range x.Args {
		over(a)
	}
	l := x.Args[:cap(x.Args)]
	for i := range l {
		l[i] = term.Term{Kind: 9}
	}
}

func TestBackKeepsAndSharesNothing(t *testing.T) {
	c := whole()
	x, _ := code.Back(c, "p")
	y, _ := code.Back(c, "p")
	z, _ := code.Back(c, "p")
	if !equal(c, whole()) {
		t.Errorf("R4: Back changed its code: %s", show(c))
	}
	// Each list is written over in turn: the others must be as they were.
	over(x.Args[0])
	if !term.Same(p(x.Args[1:]...), p(y.Args[1:]...)) {
		t.Errorf("R4: lists of one answer share room: %s", show(x))
	}
	over(x)
	clear(c.L)
	if !term.Same(y, z) || none(y) {
		t.Errorf("R4: Back: %s behind a change of another answer", show(y))
	}
}
