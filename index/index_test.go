package index_test

import (
	"fmt"
	"math"
	"slices"
	"strings"
	"testing"

	"sizar/api"
	"sizar/index"
	"sizar/term"
)

// v, n, at and f make terms: a variable, a number, an atom, and a name with Args.
func v(number int64) term.Term { return term.Var(number) }

func n(number int64) term.Term { return term.Int(number) }

func at(name string) term.Term { return term.Atom(name) }

func f(args ...term.Term) term.Term { return term.Comp("f", args...) }

// num and name make keys: the zero one is a variable's.
func num(number int64) index.Key { return index.Key{Kind: 1, N: number} }

func name(text string, args int) index.Key { return index.Key{Kind: 2, Name: text, Arity: args} }

// show tells what is told, a great one not to its end.
func show(x any) string {
	text := fmt.Sprintf("%+v", x)
	return text[:min(len(text), 300)]
}

// chain makes a term so deep, and as great, with one at its end.
func chain(deep int, last term.Term) term.Term {
	for range deep - 1 {
		last = f(last)
	}
	return last
}

// great makes a term of so many that is not deeper than 6.
func great(count int, leaf term.Term) term.Term {
	if count == 1 {
		return leaf
	}
	rest := count - 1
	args := make([]term.Term, min(rest, api.MaxArity))
	for i := range args {
		share := (rest + len(args) - 1 - i) / (len(args) - i)
		rest -= share
		args[i] = great(share, leaf)
	}
	return f(args...)
}

// bad are terms that may not be.
func bad() []term.Term {
	endless := []term.Term{n(1), at("a"), v(0)}
	endless[1] = term.Term{Kind: 2, Name: "f", Args: endless}
	twice := at("a")
	for range 70 {
		twice = f(twice, twice)
	}
	return []term.Term{
		{Kind: -1}, {Kind: 3}, {Kind: math.MaxInt}, {Kind: math.MinInt, Args: []term.Term{n(1)}}, {Kind: 3, Args: endless}, {Kind: 3, Name: "f", Args: []term.Term{at("a")}},
		{Name: "a"}, {Args: []term.Term{n(1)}}, {Name: "f", Args: []term.Term{at("a")}}, v(-1), v(math.MinInt64), v(math.MaxInt32 + 1), v(math.MaxInt64),
		{Kind: 1, Name: "a"}, {Kind: 1, N: 7, Args: []term.Term{n(1)}}, {Kind: 2, N: 1, Name: "a"}, {Kind: 2, N: -1, Name: "f", Args: []term.Term{n(1)}},
		at("\x00"), at("\x1f"), at("\x7f"), at("\xff"), at("\r"), at(strings.Repeat("a", api.MaxAtom+1)), term.Comp("\r", n(1)), term.Comp(strings.Repeat("a", api.MaxAtom+1), n(1)),
		f(slices.Repeat([]term.Term{n(1)}, api.MaxArity+1)...), chain(api.MaxDepth+1, at("a")), great(api.MaxCells+1, at("a")), endless[1], twice,
	}
}

// holdOf holds what Of answers against what it should.
func holdOf(t *testing.T, x term.Term, want index.Key) {
	t.Helper()
	if got := index.Of(x); got != want {
		t.Errorf("P16.1: Of(%s): %+v, not %+v", show(x), got, want)
	}
}

// holdFirst holds the key of a term as the first Arg of names, whatever stands behind it.
func holdFirst(t *testing.T, x term.Term, want index.Key) {
	t.Helper()
	for _, other := range []term.Term{v(0), v(9), n(3), at("b"), at(""), term.Comp("g", v(0), n(1)), x} {
		for args := range api.MaxArity {
			l := append([]term.Term{x}, slices.Repeat([]term.Term{other}, args)...)
			for _, text := range []string{"f", "", ".", ":-", strings.Repeat("p", api.MaxAtom)} {
				holdOf(t, term.Comp(text, l...), want)
			}
		}
	}
}

func TestOfVariables(t *testing.T) {
	for _, number := range []int64{0, 1, 2, 7, 1 << 16, math.MaxInt32 - 1, math.MaxInt32} {
		holdFirst(t, v(number), index.Key{})
		holdFirst(t, term.Term{N: number, Args: []term.Term{}}, index.Key{})
	}
}

func TestOfNumbers(t *testing.T) {
	for _, number := range []int64{0, 1, -1, 7, math.MaxInt32, math.MaxInt32 + 1, 1<<32 + 1, math.MinInt64, math.MaxInt64} {
		holdFirst(t, n(number), num(number))
		holdFirst(t, term.Term{Kind: 1, N: number, Args: []term.Term{}}, num(number))
	}
}

func TestOfNames(t *testing.T) {
	for _, text := range []string{"", "a", "f", "A", "1", "-1", "_", "_0", "[]", ".", ",", "a b", "'", " \t\n~", strings.Repeat("n", api.MaxAtom)} {
		holdFirst(t, at(text), name(text, 0))
		holdFirst(t, term.Term{Kind: 2, Name: text, Args: []term.Term{}}, name(text, 0))
		for args := 1; args <= api.MaxArity; args++ {
			for _, x := range []term.Term{v(0), n(1), at("a"), f(n(2), v(3))} {
				holdOf(t, f(term.Comp(text, slices.Repeat([]term.Term{x}, args)...), v(8)), name(text, args))
			}
		}
	}
	holdFirst(t, term.Comp("g", v(0), at("a")), name("g", 2))
	holdFirst(t, term.List([]term.Term{n(1), n(2)}, at("[]")), name(".", 2))
	// Spare room of the Args is not counted.
	room := append(make([]term.Term, 0, 9), n(1), n(2))
	holdOf(t, f(term.Term{Kind: 2, Name: "g", Args: room}), name("g", 2))
}

func TestOfWhatHasNoArgs(t *testing.T) {
	for _, x := range []term.Term{
		{}, v(0), v(7), v(math.MaxInt32), n(0), n(7), n(math.MinInt64), at(""), at("a"), at("f"), at("[]"), term.Comp("f"), {Kind: 2, Name: "f", Args: []term.Term{}}, {Kind: 2, Name: "f", Args: append(make([]term.Term, 0, 3), n(1))[:0]},
	} {
		holdOf(t, x, index.Key{})
	}
}

// One that may not be makes all it stands in so, wherever it stands.
func TestOfWhatIsNotGood(t *testing.T) {
	for _, x := range bad() {
		holdOf(t, x, index.Key{})
		for place := range api.MaxArity {
			for _, other := range []term.Term{n(7), at("a"), f(at("a")), v(1)} {
				l := slices.Repeat([]term.Term{other}, api.MaxArity)
				l[place] = x
				holdOf(t, f(l...), index.Key{})
				holdOf(t, f(l[:place+1]...), index.Key{})
				holdOf(t, f(n(7), f(other, f(l...))), index.Key{})
				holdOf(t, f(f(other, f(l...)), n(7)), index.Key{})
			}
		}
	}
}

func TestOfTheGreatest(t *testing.T) {
	a := at("a")
	holdOf(t, chain(api.MaxDepth, a), name("f", 1))
	holdOf(t, f(n(7), chain(api.MaxDepth-1, a)), num(7))
	holdOf(t, f(n(7), chain(api.MaxDepth, a)), index.Key{})
	holdOf(t, great(api.MaxCells, a), name("f", api.MaxArity))
	holdOf(t, f(n(7), great(api.MaxCells-2, a)), num(7))
	holdOf(t, f(n(7), great(api.MaxCells-1, a)), index.Key{})
}

func TestOfChangesNothing(t *testing.T) {
	args := append(make([]term.Term, 0, 9), term.Comp("g", v(3), n(2)), at("a"))
	x := term.Term{Kind: 2, Name: "f", Args: args}
	got := index.Of(x)
	if !term.Same(x, f(term.Comp("g", v(3), n(2)), at("a"))) || slices.ContainsFunc(args[2:9], func(y term.Term) bool { return y.Kind != 0 || y.N != 0 || y.Name != "" || y.Args != nil }) {
		t.Errorf("R4: Of changed its term: %s", show(args[:9]))
	}
	clear(args)
	if got != name("g", 2) || index.Of(f(term.Comp("g", v(3), n(2)))) != got {
		t.Errorf("R4: Of: %+v behind a change of its term", got)
	}
}

// keys are different ones: those that Of tells, the first of them a variable's, and such as may be handed in.
func keys() []index.Key {
	return []index.Key{
		{}, {N: 7}, {Name: "a"}, {Arity: 1}, {N: -1, Name: "f", Arity: 2}, {N: math.MinInt64, Arity: math.MinInt},
		num(0), num(1), num(-1), num(7), num(1<<32 + 7), num(math.MinInt64), num(math.MaxInt64),
		name("", 0), name("a", 0), name("A", 0), name("a ", 0), name("b", 0), name("7", 0), name("", 1), name("a", 1), name("a", 2), name("b", 1), name("a", 8),
		{Kind: 1, N: 7, Name: "a"}, {Kind: 1, N: 7, Arity: 1}, {Kind: 2, N: 7, Name: "a"}, {Kind: 2, Name: "a", Arity: -1}, {Kind: 2, Name: "a", Arity: math.MaxInt}, {Kind: 2, Name: "\x00\xff"},
		{Kind: 3}, {Kind: 3, N: 7}, {Kind: -1}, {Kind: -1, Name: "a"}, {Kind: math.MaxInt}, {Kind: math.MinInt}, {Kind: 256}, {Kind: 1 << 32},
	}
}

func TestMay(t *testing.T) {
	for i, a := range keys() {
		for j, b := range keys() {
			want := a.Kind == 0 || b.Kind == 0 || i == j
			if index.May(a, b) != want {
				t.Errorf("P16.1: May(%+v, %+v): %v", a, b, !want)
			}
		}
	}
}

// holdPick holds what Pick answers, of a list and of an index that has just that.
func holdPick(t *testing.T, l []index.Key, k index.Key, want ...int) {
	t.Helper()
	if got := index.Pick(l, k); !slices.Equal(got, want) {
		t.Errorf("P16.1: Pick(%v, %+v): %v, not %v", l, k, got, want)
	}
	x := index.New()
	for i, key := range l {
		if place := x.Add(key); place != i {
			t.Errorf("P16.1: Add of number %d: %d", i, place)
		}
	}
	if got := x.Pick(k); !slices.Equal(got, want) {
		t.Errorf("P16.1: an index' Pick of %v, %+v: %v, not %v", l, k, got, want)
	}
}

func TestTheExample(t *testing.T) {
	l := []index.Key{index.Of(f(v(0))), index.Of(f(at("a"))), index.Of(f(at("b")))}
	holdPick(t, l, index.Of(f(at("a"))), 0, 1)
}

func TestPick(t *testing.T) {
	a, one, two := name("a", 0), name("f", 1), num(2)
	l := []index.Key{a, {}, two, one, a, two, {Name: "a"}, {Kind: 3}, a, {}}
	for _, c := range []struct {
		k    index.Key
		want []int
	}{
		{a, []int{0, 1, 4, 6, 8, 9}}, {two, []int{1, 2, 5, 6, 9}}, {one, []int{1, 3, 6, 9}}, {index.Key{Kind: 3}, []int{1, 6, 7, 9}},
		{index.Key{}, []int{0, 1, 2, 3, 4, 5, 6, 7, 8, 9}}, {index.Key{N: 2}, []int{0, 1, 2, 3, 4, 5, 6, 7, 8, 9}}, {index.Key{Name: "f", Arity: 1}, []int{0, 1, 2, 3, 4, 5, 6, 7, 8, 9}},
		{name("b", 0), []int{1, 6, 9}}, {name("a", 1), []int{1, 6, 9}}, {name("f", 0), []int{1, 6, 9}}, {name("f", 2), []int{1, 6, 9}}, {name("", 0), []int{1, 6, 9}}, {num(0), []int{1, 6, 9}}, {num(-2), []int{1, 6, 9}}, {index.Key{Kind: 4}, []int{1, 6, 9}},
	} {
		holdPick(t, l, c.k, c.want...)
	}
	holdPick(t, []index.Key{a, one, two}, name("b", 0))
	holdPick(t, []index.Key{a}, num(0))
	for _, k := range keys() {
		holdPick(t, nil, k)
		holdPick(t, []index.Key{}, k)
		holdPick(t, []index.Key{k}, k, 0)
		holdPick(t, []index.Key{k, k, k}, k, 0, 1, 2)
	}
}

// over writes over a list, spare room too.
func over(l []int) {
	l = l[:cap(l)]
	for i := range l {
		l[i] = -9
	}
}

func TestPickKeepsAndSharesNothing(t *testing.T) {
	room := append(make([]index.Key, 0, 9), name("a", 0), index.Key{}, name("a", 0))
	l := slices.Clone(room)
	first, second := index.Pick(room, name("a", 0)), index.Pick(room, name("a", 0))
	if !slices.Equal(room, l) || slices.ContainsFunc(room[3:9], func(k index.Key) bool { return k != index.Key{} }) {
		t.Errorf("R4: Pick changed its list: %v", room[:9])
	}
	over(first)
	clear(room)
	if !slices.Equal(second, []int{0, 1, 2}) || !slices.Equal(index.Pick(l, name("a", 0)), second) {
		t.Errorf("R4: Pick: %v behind a change of another answer", second)
	}
}
