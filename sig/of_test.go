package sig_test

import (
	"math"
	"slices"
	"strings"
	"testing"

	"sizar/api"
	"sizar/sig"
	"sizar/term"
)

// some has predicates, of which some have names of mach's own, with other Arities.
func some(t *testing.T) *sig.Sig {
	t.Helper()
	return made(t, ab(),
		sig.Pred{Name: "p", Arity: 1, Ceil: 3}, sig.Pred{Name: "p", Dynamic: true}, sig.Pred{Name: "p", Arity: 8, Ceil: 2, Dynamic: true}, sig.Pred{Name: "", Arity: 2, Ceil: 1},
		sig.Pred{Name: "is", Arity: 3, Ceil: 1}, sig.Pred{Name: "true", Arity: 1}, sig.Pred{Name: "[]"}, sig.Pred{Name: ".", Arity: 2, Ceil: 3}, sig.Pred{Name: strings.Repeat("n", api.MaxAtom), Arity: 1, Ceil: 2})
}

// holdOf holds what Of answers.
func holdOf(t *testing.T, s *sig.Sig, x term.Term, want sig.Pred, e api.Errno) {
	t.Helper()
	if got, err := s.Of(x); got != want || err != e {
		t.Errorf("P17.1: Of(%s): %s, %d, not %s, %d", show(x), show(got), err, show(want), e)
	}
}

// holdError holds which error Of answers.
func holdError(t *testing.T, x term.Term, e api.Errno) {
	t.Helper()
	holdOf(t, some(t), x, sig.Pred{}, e)
	holdOf(t, made(t, ab()), x, sig.Pred{}, e)
}

// chain makes a term so deep, and as great, with one at its end.
func chain(deep int, last term.Term) term.Term {
	for range deep - 1 {
		last = term.Comp("p", last)
	}
	return last
}

// great makes a term of so many that is not deeper than 6, of eight Args.
func great(count int) term.Term {
	if count == 1 {
		return term.Atom("a")
	}
	rest := count - 1
	args := make([]term.Term, min(rest, api.MaxArity))
	for i := range args {
		share := (rest + len(args) - 1 - i) / (len(args) - i)
		rest -= share
		args[i] = great(share)
	}
	return term.Comp("p", args...)
}

// fill are Args that may be.
func fill() []term.Term {
	return []term.Term{term.Var(0), term.Var(7), term.Int(0), term.Int(-7), term.Atom("a"), term.Atom("true"), term.Comp("is", term.Var(1), term.Int(2)), term.Comp("p", term.Atom("p"))}
}

func TestOfThoseThatAreThere(t *testing.T) {
	s := some(t)
	for _, one := range s.All() {
		for _, arg := range fill() {
			holdOf(t, s, term.Comp(one.Name, slices.Repeat([]term.Term{arg}, one.Arity)...), one, api.OK)
		}
		// Spare room of the Args is not counted.
		room := append(make([]term.Term, one.Arity, 10), term.Int(1))
		holdOf(t, s, term.Term{Kind: 2, Name: one.Name, Args: room[:one.Arity]}, one, api.OK)
	}
	holdOf(t, s, term.Atom("p"), sig.Pred{Name: "p", Dynamic: true}, api.OK)
	holdOf(t, s, term.List([]term.Term{term.Int(1), term.Int(2)}, term.Atom("[]")), sig.Pred{Name: ".", Arity: 2, Ceil: 3}, api.OK)
	holdOf(t, made(t, ab(), sig.Pred{}), term.Atom(""), sig.Pred{}, api.OK)
}

func TestOfThoseThatAreNotThere(t *testing.T) {
	for _, name := range []string{"q", "P", "p ", "p/1", "a", "i", "tru", "nn", "\n", "[", ".."} {
		for arity := range api.MaxArity + 1 {
			for _, arg := range fill() {
				holdError(t, term.Comp(name, slices.Repeat([]term.Term{arg}, arity)...), api.EEXIST)
			}
		}
	}
	for _, k := range []key{{"p", 2}, {"p", 7}, {"", 0}, {"", 1}, {"is", 0}, {"is", 1}, {"is", 4}, {"true", 2}, {"[]", 1}, {".", 1}, {".", 3}, {"to_labeled", 3}, {"to_labeled", 5}, {strings.Repeat("n", api.MaxAtom), 0}, {strings.Repeat("n", api.MaxAtom-1), 1}} {
		holdError(t, term.Comp(k.name, slices.Repeat([]term.Term{term.Int(1)}, k.arity)...), api.EEXIST)
	}
}

func TestOfPlainOnes(t *testing.T) {
	for k := range owns() {
		for _, arg := range fill() {
			holdError(t, term.Comp(k.name, slices.Repeat([]term.Term{arg}, k.arity)...), api.EPERM)
		}
	}
	// One with a body is a call of `:-`: no head.
	holdError(t, term.Comp(":-", term.Atom("p"), term.Atom("true")), api.EPERM)
}

func TestOfVariablesAndNumbers(t *testing.T) {
	for _, number := range []int64{0, 1, 7, 1 << 16, math.MaxInt32} {
		holdError(t, term.Var(number), api.EINST)
		holdError(t, term.Term{N: number, Args: []term.Term{}}, api.EINST)
	}
	for _, number := range []int64{0, 1, -1, 7, math.MaxInt32 + 1, math.MinInt64, math.MaxInt64} {
		holdError(t, term.Int(number), api.ETYPE)
		holdError(t, term.Term{Kind: 1, N: number, Args: []term.Term{}}, api.ETYPE)
	}
}

// bad are terms that may not be.
func bad() []term.Term {
	endless := []term.Term{term.Int(1)}
	endless[0] = term.Term{Kind: 2, Name: "p", Args: endless}
	twice := term.Atom("a")
	for range 70 {
		twice = term.Comp("p", twice, twice)
	}
	one := []term.Term{term.Int(1)}
	return []term.Term{
		{Kind: -1}, {Kind: 3}, {Kind: math.MaxInt}, {Kind: math.MinInt}, {Kind: 3, Name: "p"}, {Kind: 3, Name: "p", Args: one}, {Kind: 258, Name: "p"},
		{Name: "p"}, {Name: "p", Args: one}, {Name: "true"}, {Args: one}, term.Var(-1), term.Var(math.MinInt64), term.Var(math.MaxInt32 + 1), term.Var(math.MaxInt64),
		{Kind: 1, Name: "p"}, {Kind: 1, Name: "true"}, {Kind: 1, Name: "p", Args: one}, {Kind: 1, N: 7, Args: one}, {Kind: 2, N: 1, Name: "p"}, {Kind: 2, N: -1, Name: "p", Args: one}, {Kind: 2, N: 1, Name: "true"},
		term.Atom("\x00"), term.Atom("\x1f"), term.Atom("\x7f"), term.Atom("\xff"), term.Atom("\r"), term.Comp("p\r", term.Int(1)), term.Atom(strings.Repeat("n", api.MaxAtom+1)), term.Comp(strings.Repeat("n", api.MaxAtom+1), term.Int(1)),
		term.Comp("p", slices.Repeat(one, api.MaxArity+1)...), chain(api.MaxDepth+1, term.Atom("a")), great(api.MaxCells + 1), endless[0], twice,
	}
}

// One that may not be makes all it stands in so, of whatever predicate that is.
func TestOfWhatIsNotGood(t *testing.T) {
	for _, x := range bad() {
		holdError(t, x, api.EARG)
		for _, k := range []key{{"p", 1}, {"p", 8}, {"q", 2}, {"is", 2}, {"true", 1}, {"call", 1}, {":-", 2}, {"to_labeled", 4}, {"", 2}} {
			for place := range k.arity {
				l := slices.Repeat([]term.Term{term.Atom("a")}, k.arity)
				l[place] = x
				holdError(t, term.Comp(k.name, l...), api.EARG)
				l[place] = term.Comp("p", x)
				holdError(t, term.Comp(k.name, l...), api.EARG)
			}
		}
	}
}

func TestOfTheGreatest(t *testing.T) {
	s := some(t)
	one, eight := sig.Pred{Name: "p", Arity: 1, Ceil: 3}, sig.Pred{Name: "p", Arity: 8, Ceil: 2, Dynamic: true}
	holdOf(t, s, chain(api.MaxDepth, term.Atom("a")), one, api.OK)
	holdOf(t, s, great(api.MaxCells), eight, api.OK)
	holdError(t, term.Comp("call", chain(api.MaxDepth-1, term.Var(0))), api.EPERM)
	holdError(t, term.Comp("call", chain(api.MaxDepth, term.Var(0))), api.EARG)
	holdError(t, term.Comp("throw", great(api.MaxCells-1)), api.EPERM)
	holdError(t, term.Comp("throw", great(api.MaxCells)), api.EARG)
	holdError(t, term.Comp("q", great(api.MaxCells-1)), api.EEXIST)
	holdError(t, term.Comp("q", great(api.MaxCells)), api.EARG)
}

func TestOfChangesNothing(t *testing.T) {
	s := some(t)
	before := s.All()
	args := append(make([]term.Term, 0, 9), term.Comp("g", term.Var(3), term.Int(2)))
	x := term.Term{Kind: 2, Name: "p", Args: args}
	holdOf(t, s, x, sig.Pred{Name: "p", Arity: 1, Ceil: 3}, api.OK)
	if !term.Same(x, term.Comp("p", term.Comp("g", term.Var(3), term.Int(2)))) || slices.ContainsFunc(args[1:9], func(y term.Term) bool { return y.Kind != 0 || y.N != 0 || y.Name != "" || y.Args != nil }) {
		t.Errorf("R4: Of changed its term: %s", show(args[:9]))
	}
	for _, y := range append(bad(), term.Atom("q"), term.Atom("true"), term.Var(0), term.Int(1)) {
		s.Of(y)
		s.Find(y.Name, len(y.Args))
	}
	if got := s.All(); !slices.Equal(got, before) {
		t.Errorf("R3: All: %s, not %s", show(got), show(before))
	}
}
