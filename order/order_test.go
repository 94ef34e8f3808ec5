package order_test

import (
	"math"
	"reflect"
	"slices"
	"strings"
	"testing"

	"sizar/api"
	"sizar/order"
	"sizar/term"
)

// v, n, at and f make terms: a variable, a number, an atom, and a name with Args.
func v(number int64) term.Term { return term.Var(number) }

func n(number int64) term.Term { return term.Int(number) }

func at(name string) term.Term { return term.Atom(name) }

func f(name string, args ...term.Term) term.Term { return term.Comp(name, args...) }

// list makes a whole list.
func list(items ...term.Term) term.Term { return term.List(items, at("[]")) }

// ops are the tests there are, each with what it says of one that is ahead, alike, behind.
func ops() map[string][3]bool {
	return map[string][3]bool{
		"==":   {false, true, false},
		"\\==": {true, false, true},
		"@<":   {true, false, false},
		"@>":   {false, false, true},
		"@=<":  {true, true, false},
		"@>=":  {false, true, true},
	}
}

// hold holds what all that compares answers of two, this way and the other, against what it should.
func hold(t *testing.T, a, b term.Term, want int) {
	t.Helper()
	if got, back := order.Cmp(a, b), order.Cmp(b, a); got != want || back != -want {
		t.Errorf("P10.1: Cmp(%v, %v): %d, and the other way %d; not %d", a, b, got, back, want)
	}
	for op, says := range ops() {
		if got, e := order.Test(op, a, b); got != says[want+1] || e != api.OK {
			t.Errorf("P10.1: Test(%s, %v, %v): %v, %d", op, a, b, got, e)
		}
		if got, e := order.Test(op, b, a); got != says[1-want] || e != api.OK {
			t.Errorf("P10.1: Test(%s, %v, %v): %v, %d", op, b, a, got, e)
		}
	}
}

// holdRising holds terms that are each ahead of all behind it.
func holdRising(t *testing.T, l ...term.Term) {
	t.Helper()
	for i, a := range l {
		hold(t, a, a, 0)
		for _, b := range l[i+1:] {
			hold(t, a, b, -1)
		}
	}
}

// holdRefused holds what is answered of two of which one may not be at least.
func holdRefused(t *testing.T, what string, a, b term.Term) {
	t.Helper()
	if got := order.Cmp(a, b); got != 0 {
		t.Errorf("P10.1: Cmp of %s: %d", what, got)
	}
	for op := range ops() {
		if ok, e := order.Test(op, a, b); ok || e != api.EARG {
			t.Errorf("P10.1, R2: Test %s of %s: %v, %d", op, what, ok, e)
		}
	}
	if ok, e := order.Test("=", a, b); ok || e != api.EARG {
		t.Errorf("P10.1, R2: Test of no op of %s: %v, %d", what, ok, e)
	}
}

// holdKey holds what Key answers against what it should.
func holdKey(t *testing.T, what string, x term.Term, place int, name string, args int) {
	t.Helper()
	if p, s, c := order.Key(x); p != place || s != name || c != args {
		t.Errorf("P10.1: Key of %s: %d, %q, %d; not %d, %q, %d", what, p, s, c, place, name, args)
	}
}

func TestExamples(t *testing.T) {
	holdRising(t, v(0), n(7), at("a"), f("f", at("a")))
}

func TestKinds(t *testing.T) {
	holdRising(t, v(0), v(math.MaxInt32), n(math.MinInt64), n(math.MaxInt64), at(""), at(strings.Repeat("~", api.MaxAtom)), f("", v(0)), f("~", f("~", at("~"))))
	// Neither a great number of a variable nor a small name is ahead of the kind.
	for _, x := range []term.Term{v(0), v(5), v(math.MaxInt32)} {
		for _, y := range []term.Term{n(-9), n(0), n(5), n(math.MaxInt32)} {
			hold(t, x, y, -1)
		}
	}
	hold(t, at("z"), f("a", n(1)), -1)
	hold(t, at("f"), f("f", v(0)), -1)
	hold(t, at("[]"), list(n(1)), -1)
	hold(t, n(1), at("1"), -1)
}

func TestNumbersAndVariables(t *testing.T) {
	holdRising(t, v(0), v(1), v(2), v(9), v(10), v(100), v(math.MaxInt32-1), v(math.MaxInt32))
	holdRising(t, n(math.MinInt64), n(math.MinInt64+1), n(-1<<32), n(-10), n(-9), n(-1), n(0), n(1), n(9), n(10), n(1<<31), n(1<<32), n(1<<32+1), n(math.MaxInt64-1), n(math.MaxInt64))
}

func TestNames(t *testing.T) {
	longA := strings.Repeat("a", api.MaxAtom-1)
	names := []string{"", "\t", "\n", " ", "!", "+", "-", ".", "0", "10", "9", "@", "A", "B", "Z", "[]", "\\", "_", "a", "a\t", "a\n", "a ", "aB", "aa", longA, longA + "a", longA + "b", "ab", "b", "z", "{}", "~", "~~"}
	var atoms, comps []term.Term
	for _, name := range names {
		atoms = append(atoms, at(name))
		comps = append(comps, f(name, at("x"), n(1)))
	}
	holdRising(t, atoms...)
	holdRising(t, comps...)
}

func TestArgs(t *testing.T) {
	a, b := at("a"), at("b")
	// How many is asked first, then the name, then the Args.
	holdRising(t,
		f("a", a), f("a", b), f("a", f("a", a)), f("b", a), f("z", b),
		f("a", a, a), f("a", a, b), f("a", b, a), f("a", b, b), f("b", a, a), f("z", v(0), v(0)),
		f("a", v(0), v(0), v(0)), f("b", v(0), v(0), v(0)),
		f("a", n(1), n(1), n(1), n(1)), f("", n(1), n(1), n(1), n(1), n(1)), f("", n(1), n(1), n(1), n(1), n(1), n(1)))
	// The first Arg that is not alike decides, whatever stands behind it.
	holdRising(t, f("f", n(1), f("z", at("z"))), f("f", n(2), v(0)), f("f", n(3), n(-4)))
	holdRising(t, f("f", v(0), n(2), at("z")), f("f", v(0), n(3), v(0)), f("f", v(1), n(2), v(0)))
	for place := range api.MaxArity {
		low := slices.Repeat([]term.Term{n(3)}, api.MaxArity)
		high := slices.Clone(low)
		low[place], high[place] = v(7), f("f", v(0))
		for i := place + 1; i < api.MaxArity; i++ {
			low[i] = at("z")
		}
		hold(t, f("f", low...), f("f", high...), -1)
		hold(t, f("f", low...), f("f", low...), 0)
	}
	// Within Args the same order holds.
	holdRising(t, f("f", v(3)), f("f", v(4)), f("f", n(-1)), f("f", n(0)), f("f", at("")), f("f", at("a")), f("f", f("z", v(0))), f("f", f("a", v(0), v(0))), f("f", f("a", v(0), v(1))))
}

func TestLists(t *testing.T) {
	holdRising(t, at("[]"), list(v(0)), list(n(1)), list(n(1), n(1)), list(n(1), n(2)), list(n(2)), list(at("[]")), list(list(n(1))), list(list(n(1), n(1))), f("/", n(1), n(1)))
	// The tail is an Arg too: a list ahead of a longer one, since an atom is ahead of what has Args.
	holdRising(t, term.List([]term.Term{n(1)}, v(0)), term.List([]term.Term{n(1)}, n(0)), term.List([]term.Term{n(1)}, at("A")), list(n(1)), term.List([]term.Term{n(1)}, at("a")), list(n(1), v(0)))
}

func TestAlike(t *testing.T) {
	hold(t, f("f"), at("f"), 0)
	hold(t, term.Term{Kind: 2, Name: "f", Args: []term.Term{}}, at("f"), 0)
	hold(t, term.Term{Kind: 1, N: 4, Args: []term.Term{}}, n(4), 0)
	hold(t, term.Term{Args: []term.Term{}}, term.Term{}, 0)
	hold(t, f("f", v(1), f("g", at("a b"), n(-3))), f("f", v(1), f("g", at("a b"), n(-3))), 0)
	// Alike but for the numbers of variables is not enough.
	hold(t, f("f", v(0), v(0)), f("f", v(0), v(1)), -1)
	hold(t, f("f", v(0)), f("f", v(1)), -1)
}

func TestNoSuchTest(t *testing.T) {
	known := ops()
	signs := []string{"", "=", "<", ">", "@", "\\", " ", "a", "\x00", "\xff"}
	for _, a := range signs {
		for _, b := range signs {
			for _, c := range signs {
				for _, d := range signs {
					op := a + b + c + d
					if _, ok := known[op]; ok {
						continue
					}
					if ok, e := order.Test(op, n(1), n(1)); ok || e != api.EARG {
						t.Errorf("P10.1, R2: Test(%q): %v, %d", op, ok, e)
					}
				}
			}
		}
	}
	for _, op := range []string{"=:=", "=\\=", "is", "=..", "@=", "@==", "'=='", "==.", strings.Repeat("=", 1<<20)} {
		if ok, e := order.Test(op, n(1), n(2)); ok || e != api.EARG {
			t.Errorf("P10.1, R2: Test of no op of %d bytes: %v, %d", len(op), ok, e)
		}
	}
}

// bad are terms that may not be.
func bad() []term.Term {
	l := []term.Term{
		v(-1), v(math.MaxInt32 + 1), v(math.MinInt64), v(math.MaxInt64), {Name: "a"}, {Args: []term.Term{n(1)}},
		{Kind: 1, Name: "a"}, {Kind: 1, Args: []term.Term{n(1)}}, {Kind: 2, N: 1}, {Kind: 2, N: -1, Name: "a"},
		{Kind: 3}, {Kind: 3, Name: "f", Args: []term.Term{n(1)}}, {Kind: 4}, {Kind: -1}, {Kind: math.MaxInt}, {Kind: math.MinInt},
		at(strings.Repeat("a", api.MaxAtom+1)), f("f", slices.Repeat([]term.Term{n(1)}, api.MaxArity+1)...),
		chain(api.MaxDepth+1, n(1)), wide(api.MaxCells+1, n(1)), endless(), shared(60),
	}
	for _, name := range []string{"\x00", "\x08", "\x0b", "\r", "\x1f", "\x7f", "\x80", "\xff", "a\x00", "ä"} {
		l = append(l, at(name))
	}
	return l
}

// chain makes a term so deep with one at its end.
func chain(deep int, last term.Term) term.Term {
	for range deep - 1 {
		last = f("f", last)
	}
	return last
}

// wide makes a term of so many, of which the last one from the left is given.
func wide(count int, last term.Term) term.Term {
	if count == 1 {
		return last
	}
	var args []term.Term
	for left := count - 1; left > 0; {
		// No Arg is greater than the eighth part of what is left, so that eight of them hold it all.
		size := (left + api.MaxArity - len(args) - 1) / (api.MaxArity - len(args))
		left -= size
		inner := at("b")
		if left == 0 {
			inner = last
		}
		args = append(args, wide(size, inner))
	}
	return f("f", args...)
}

// endless makes a term that has itself among its Args.
func endless() term.Term {
	args := []term.Term{n(1), at("a"), v(0)}
	args[1] = term.Term{Kind: 2, Name: "f", Args: args}
	return args[1]
}

// shared makes a term so deep of which each has the same one twice: so that there are 2^deep ways and more.
func shared(deep int) term.Term {
	x := v(0)
	for range deep - 1 {
		x = f("f", x, x)
	}
	return x
}

func TestWhatMayNotBe(t *testing.T) {
	good := []term.Term{v(0), n(-7), at("a"), f("f", n(1)), f("g", v(0), n(1))}
	for _, x := range bad() {
		holdRefused(t, "two that may not be", x, x)
		for _, y := range good {
			holdRefused(t, "a bad one ahead", x, y)
			holdRefused(t, "a bad one behind", y, x)
			// What decides would stand ahead of it: it is refused all the same.
			holdRefused(t, "a bad one within", f("f", n(1), x), f("f", n(2), y))
			holdRefused(t, "a bad one within the other", f("f", n(2), y), f("f", n(1), x))
			holdRefused(t, "a bad one within, of another kind", v(0), f("f", y, f("g", x)))
		}
	}
	holdRefused(t, "a bad one each", v(-1), at("\x00"))
}

func TestAtTheLimits(t *testing.T) {
	holdRising(t, chain(api.MaxDepth, v(0)), chain(api.MaxDepth, n(0)), chain(api.MaxDepth, n(1)), chain(api.MaxDepth, at("a")))
	hold(t, chain(api.MaxDepth-1, at("z")), chain(api.MaxDepth, v(0)), -1)
	holdRising(t, wide(api.MaxCells, v(0)), wide(api.MaxCells, n(0)), wide(api.MaxCells, at("a")), wide(api.MaxCells, at("c")))
	hold(t, shared(10), shared(10), 0)
	hold(t, shared(9), shared(10), -1)
	full := strings.Repeat("~", api.MaxAtom)
	args := slices.Repeat([]term.Term{at(full)}, api.MaxArity)
	hold(t, f(full, args...), f(full, args...), 0)
	hold(t, f(full, args[1:]...), f(full, args...), -1)
	hold(t, f(full[1:], args...), f(full, args...), -1)
	if !term.Good(chain(api.MaxDepth, n(1))) || term.Size(wide(api.MaxCells, n(1))) != api.MaxCells || !term.Good(wide(api.MaxCells, n(1))) {
		t.Error("the test has terms that are not at the limits")
	}
	holdRefused(t, "too deep a one", chain(api.MaxDepth+1, n(1)), chain(api.MaxDepth, n(1)))
	holdRefused(t, "too great a one", wide(api.MaxCells, n(1)), wide(api.MaxCells+1, n(1)))
}

func TestKeys(t *testing.T) {
	for _, number := range []int64{0, 3, math.MaxInt32} {
		holdKey(t, "a variable", v(number), 0, "", 0)
	}
	for _, number := range []int64{math.MinInt64, -1, 0, 2, math.MaxInt64} {
		holdKey(t, "a number", n(number), 1, "", 0)
	}
	for _, name := range []string{"", "a", "[]", ".", "a b", "\n", strings.Repeat("~", api.MaxAtom)} {
		holdKey(t, "an atom", at(name), 2, name, 0)
		holdKey(t, "an atom with an empty list", term.Term{Kind: 2, Name: name, Args: []term.Term{}}, 2, name, 0)
		for args := range api.MaxArity {
			holdKey(t, "one with Args", f(name, slices.Repeat([]term.Term{f("g", v(0), v(1))}, args+1)...), 3, name, args+1)
		}
	}
	holdKey(t, "a list", list(n(1), n(2), n(3)), 3, ".", 2)
	holdKey(t, "a deep one", chain(api.MaxDepth, n(1)), 3, "f", 1)
}

func TestKeysOfWhatMayNotBe(t *testing.T) {
	one := []term.Term{n(1)}
	holdKey(t, "no variable", v(-1), 0, "", 0)
	holdKey(t, "no variable", v(math.MaxInt64), 0, "", 0)
	holdKey(t, "a variable with a name", term.Term{N: 3, Name: "a"}, 0, "a", 0)
	holdKey(t, "a variable with Args", term.Term{N: 3, Args: one}, 0, "", 1)
	holdKey(t, "a number with all", term.Term{Kind: 1, N: 3, Name: "a", Args: one}, 1, "a", 1)
	holdKey(t, "an atom with a number", term.Term{Kind: 2, N: 3, Name: "a"}, 2, "a", 0)
	holdKey(t, "one with Args and a number", term.Term{Kind: 2, N: 3, Name: "a", Args: one}, 3, "a", 1)
	holdKey(t, "no atom", at("\x00\xff"), 2, "\x00\xff", 0)
	holdKey(t, "a long atom", at(strings.Repeat("a", 5000)), 2, strings.Repeat("a", 5000), 0)
	holdKey(t, "one with many Args", f("f", make([]term.Term, 5000)...), 3, "f", 5000)
	holdKey(t, "one with bad Args", f("f", v(-1), at("\x00")), 3, "f", 2)
	holdKey(t, "too deep a one", chain(5000, n(1)), 3, "f", 1)
	holdKey(t, "too great a one", wide(api.MaxCells+1, n(1)), 3, "f", 8)
	holdKey(t, "one that has itself", endless(), 3, "f", 3)
	holdKey(t, "one that is shared", shared(60), 3, "f", 2)
	// A kind that there is not is its own place.
	for _, kind := range []int{math.MinInt, -1, 3, 4, math.MaxInt} {
		holdKey(t, "no kind", term.Term{Kind: kind}, kind, "", 0)
		holdKey(t, "no kind, with all", term.Term{Kind: kind, N: 7, Name: "a", Args: one}, kind, "a", 1)
	}
}

func TestNoCallChangesATerm(t *testing.T) {
	room := append(make([]term.Term, 0, 9), v(3), f("g", n(4), v(2)), term.Term{Kind: 2, Name: "[]", Args: []term.Term{}})
	held := slices.Clone(room[:9])
	for _, x := range []term.Term{{Kind: 2, Name: "f", Args: room}, {Kind: 2, Name: "f", Args: room[:2]}, {Kind: 4, Name: "f", Args: room}} {
		for _, y := range []term.Term{f("f", held[:3]...), f("f", n(1), n(2)), x} {
			first := order.Cmp(x, y)
			for range 3 {
				order.Key(x)
				if order.Cmp(y, x) != -first || order.Cmp(x, y) != first {
					t.Errorf("R5: Cmp answers otherwise than before: %v, %v", x, y)
				}
				for op := range ops() {
					order.Test(op, x, y)
					order.Test(op, y, x)
				}
			}
		}
	}
	if !reflect.DeepEqual(room[:9], held) {
		t.Errorf("R4: what was handed in is %v, not %v", room[:9], held)
	}
}
