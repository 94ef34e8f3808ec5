package sig_test

import (
	"fmt"
	"math"
	"slices"
	"strconv"
	"strings"
	"testing"

	"sizar/api"
	"sizar/label"
	"sizar/sig"
	"sizar/term"
)

// ab are two categories.
func ab() label.Names { return label.Names{"a", "b"} }

// p makes a predicate at nought that is not Dynamic.
func p(name string, arity int) sig.Pred { return sig.Pred{Name: name, Arity: arity} }

// many makes so many predicates, all different.
func many(count int) []sig.Pred {
	l := make([]sig.Pred, count)
	for i := range l {
		l[i] = p("p"+strconv.Itoa(i/3), i%3)
	}
	return l
}

// show tells what is told, a great one not to its end.
func show(x any) string {
	text := fmt.Sprintf("%+v", x)
	return text[:min(len(text), 300)]
}

// made makes one that may be.
func made(t *testing.T, n label.Names, l ...sig.Pred) *sig.Sig {
	t.Helper()
	s, e := sig.New(n, l...)
	if e != api.OK || s == nil {
		t.Fatalf("P17.1: New(%s, %s): %d", show(n), show(l), e)
	}
	return s
}

// holdNew holds what New answers, and what it then has.
func holdNew(t *testing.T, n label.Names, l []sig.Pred, want api.Errno) {
	t.Helper()
	s, e := sig.New(n, l...)
	if e != want {
		t.Errorf("P17.1: New(%s, %s): %d, not %d", show(n), show(l), e, want)
	}
	if (s == nil) != (e != api.OK) {
		t.Errorf("R2: New(%s, %s): %v with %d", show(n), show(l), s, e)
	}
	if s == nil || want != api.OK {
		return
	}
	if got := s.All(); !slices.Equal(got, l) {
		t.Errorf("P17.1: All: %s, not %s", show(got), show(l))
	}
	if got := s.Names(); !slices.Equal(got, n) {
		t.Errorf("P17.1: Names: %s, not %s", show(got), show(n))
	}
	for _, one := range l {
		if got, ok := s.Find(one.Name, one.Arity); !ok || got != one {
			t.Errorf("P17.1: Find(%q, %d): %s, %v", one.Name, one.Arity, show(got), ok)
		}
	}
}

func TestNew(t *testing.T) {
	most := strings.Repeat("a", api.MaxAtom)
	for _, l := range [][]sig.Pred{
		nil, {}, {p("p", 0)}, {p("p", 1), p("p", 0), p("p", 2)}, {p("q", 1), p("p", 1)}, {p("p", 1), p("P", 1), p("p ", 1), p("", 1)},
		{p("p", api.MaxArity)}, {p("", 0)}, {p(most, 0), p(most, 8), p(most[1:], 0)}, {p(" \t\n~", 1)}, {p("[]", 0), p(".", 2), p("a b", 3), p("'", 1)},
		{{Name: "p", Arity: 1, Ceil: 3, Dynamic: true}, {Name: "q", Arity: 1, Ceil: 2}, {Name: "r", Ceil: 1, Dynamic: true}},
		{p("true", 1), p("fail", 2), p("!", 1), p(",", 1), p(":-", 1), p("is", 3), p("to_labeled", 3), p("call", 0), p("call", 2)},
		many(api.MaxPreds - 1), many(api.MaxPreds),
	} {
		holdNew(t, ab(), l, api.OK)
	}
}

func TestNewOfNames(t *testing.T) {
	names := make(label.Names, api.MaxNames+1)
	for i := range names {
		names[i] = "n" + strconv.Itoa(i)
	}
	for _, n := range []label.Names{{"a"}, {"b", "a"}, {"a_1", "a1"}, {strings.Repeat("a", api.MaxName)}, names[:api.MaxNames]} {
		holdNew(t, n, nil, api.OK)
		holdNew(t, n, []sig.Pred{p("p", 1), {Name: "q", Ceil: label.Top(n)}}, api.OK)
	}
	for _, n := range []label.Names{nil, {}, {""}, {"A"}, {"a", "a"}, {"a", "b", "a"}, {"a", ""}, {"a b"}, {"1"}, {"_a"}, {"\u00e9"}, {strings.Repeat("a", api.MaxName+1)}, names} {
		holdNew(t, n, nil, api.EARG)
		holdNew(t, n, []sig.Pred{p("p", 1)}, api.EARG)
		holdNew(t, n, []sig.Pred{p("is", 2)}, api.EARG)
		holdNew(t, n, []sig.Pred{p("p", 1), p("p", 1)}, api.EARG)
	}
}

func TestNewOfTooMany(t *testing.T) {
	holdNew(t, ab(), many(api.MaxPreds+1), api.EARG)
	holdNew(t, ab(), many(1<<16), api.EARG)
	holdNew(t, ab(), slices.Repeat([]sig.Pred{p("p", 1)}, api.MaxPreds+1), api.EARG)
	holdNew(t, ab(), slices.Repeat([]sig.Pred{p("is", 2)}, api.MaxPreds+1), api.EARG)
	holdNew(t, ab(), slices.Repeat([]sig.Pred{p("p", 1)}, api.MaxPreds), api.EFULL)
	holdNew(t, ab(), slices.Repeat([]sig.Pred{p("is", 2)}, api.MaxPreds), api.EPERM)
}

// wrong are predicates that may not be, of the categories a and b.
func wrong() []sig.Pred {
	l := []sig.Pred{p("p", -1), p("p", api.MaxArity+1), p("p", 256), p("p", 1<<32), p("p", math.MaxInt), p("p", math.MinInt), p("is", 9), p("is", -2), p("", -1)}
	for _, name := range []string{"\x00", "\x01", "\x08", "\x0b", "\r", "\x1f", "\x7f", "\x80", "\xff", "a\x00", "a\x7fb", "\u00e9", "is\x00", strings.Repeat("a", api.MaxAtom+1), strings.Repeat("a", 1<<16)} {
		l = append(l, p(name, 0), p(name, 2))
	}
	for _, ceil := range []label.Label{4, 5, 7, 8, 1 << 16, 1 << 32, 1<<32 | 1, 1 << 63, math.MaxUint64} {
		l = append(l, sig.Pred{Name: "p", Arity: 1, Ceil: ceil}, sig.Pred{Name: "p", Arity: 1, Ceil: ceil, Dynamic: true}, sig.Pred{Name: "is", Arity: 2, Ceil: ceil})
	}
	return l
}

func TestNewOfWrongOnes(t *testing.T) {
	good, plain := p("q", 1), p("is", 2)
	for _, x := range wrong() {
		for place := range 4 {
			for _, other := range []sig.Pred{good, plain} {
				l := slices.Repeat([]sig.Pred{other}, 4)
				l[place] = x
				holdNew(t, ab(), l, api.EARG)
				holdNew(t, ab(), l[:place+1], api.EARG)
			}
		}
		holdNew(t, ab(), []sig.Pred{x, x}, api.EARG)
		holdNew(t, ab(), []sig.Pred{good, x, plain}, api.EARG)
		holdNew(t, ab(), append(many(api.MaxPreds-1), x), api.EARG)
	}
}

func TestNewOfPlainOnes(t *testing.T) {
	for k := range owns() {
		x := sig.Pred{Name: k.name, Arity: k.arity, Ceil: 2, Dynamic: true}
		holdNew(t, ab(), []sig.Pred{x}, api.EPERM)
		holdNew(t, ab(), []sig.Pred{p(k.name, k.arity)}, api.EPERM)
		holdNew(t, ab(), []sig.Pred{x, x}, api.EPERM)
		holdNew(t, ab(), []sig.Pred{p("q", 1), p("q", 1), x}, api.EPERM)
		holdNew(t, ab(), []sig.Pred{x, p("q", 1), p("q", 1)}, api.EPERM)
		holdNew(t, ab(), append(many(api.MaxPreds-1), x), api.EPERM)
		var others []sig.Pred
		for arity := range api.MaxArity + 1 {
			if arity != k.arity {
				others = append(others, p(k.name, arity))
			}
		}
		holdNew(t, ab(), others, api.OK)
	}
}

func TestNewOfOneTwice(t *testing.T) {
	for _, l := range [][]sig.Pred{
		{p("p", 1), p("p", 1)}, {p("", 0), p("", 0)}, {p("p", 8), p("q", 8), p("p", 8)}, {p("q", 0), p("p", 1), p("p", 0), p("p", 1)},
		{p("p", 1), {Name: "p", Arity: 1, Ceil: 3}}, {p("p", 1), {Name: "p", Arity: 1, Dynamic: true}}, {{Name: "p", Arity: 1, Ceil: 1, Dynamic: true}, p("q", 1), {Name: "p", Arity: 1, Ceil: 2}},
	} {
		holdNew(t, ab(), l, api.EFULL)
	}
	for at := range api.MaxPreds - 1 {
		l := many(api.MaxPreds)
		l[api.MaxPreds-1] = l[at]
		holdNew(t, ab(), l, api.EFULL)
		l = many(api.MaxPreds)
		l[0] = l[at+1]
		holdNew(t, ab(), l, api.EFULL)
	}
}

func TestFind(t *testing.T) {
	l := []sig.Pred{{Name: "p", Arity: 1, Ceil: 3}, {Name: "p", Dynamic: true}, {Name: "", Arity: 2, Ceil: 1}, {Name: "is", Arity: 8, Ceil: 2, Dynamic: true}}
	s := made(t, ab(), l...)
	for _, name := range []string{"p", "P", "p/1", "p ", "", "is", "i", "q", "true", "\x00", "p\x00", strings.Repeat("p", 1<<16)} {
		for _, arity := range []int{math.MinInt, -1, 0, 1, 2, 3, 8, 9, 256, 257, 1<<32 + 1, math.MaxInt} {
			var want sig.Pred
			for _, one := range l {
				if one.Name == name && one.Arity == arity {
					want = one
				}
			}
			got, ok := s.Find(name, arity)
			if got != want || ok != (want != sig.Pred{}) {
				t.Errorf("P17.1: Find(%s, %d): %s, %v", show(name), arity, show(got), ok)
			}
		}
	}
	// A zero Pred may be there, too: the bool tells.
	zero := made(t, ab(), sig.Pred{})
	if got, ok := zero.Find("", 0); !ok || got != (sig.Pred{}) {
		t.Errorf("P17.1: Find of a zero one: %s, %v", show(got), ok)
	}
	for k := range owns() {
		if got, ok := s.Find(k.name, k.arity); ok || got != (sig.Pred{}) {
			t.Errorf("P17.1: Find(%q, %d): %s, %v", k.name, k.arity, show(got), ok)
		}
	}
}

func TestAllIsInOrder(t *testing.T) {
	l := many(api.MaxPreds)
	holdNew(t, ab(), l, api.OK)
	slices.Reverse(l)
	holdNew(t, ab(), l, api.OK)
	for range l {
		l = append(l[1:], l[0])
		holdNew(t, ab(), l, api.OK)
	}
}

// over writes over a list, spare room too.
func over[T any](l []T, x T) {
	l = l[:cap(l)]
	for i := range l {
		l[i] = x
	}
}

func TestNewKeepsNoList(t *testing.T) {
	names := append(make(label.Names, 0, 9), "a", "b")
	l := append(make([]sig.Pred, 0, 9), p("p", 1), sig.Pred{Name: "q", Ceil: 3, Dynamic: true})
	s := made(t, names, l...)
	if !slices.Equal(names, ab()) || slices.ContainsFunc(names[2:9], func(x string) bool { return x != "" }) {
		t.Errorf("R4: New changed its names: %q", names[:9])
	}
	if !slices.Equal(l, []sig.Pred{p("p", 1), {Name: "q", Ceil: 3, Dynamic: true}}) || slices.ContainsFunc(l[2:9], func(x sig.Pred) bool { return x != sig.Pred{} }) {
		t.Errorf("R4: New changed its list: %s", show(l[:9]))
	}
	over(names, "z")
	over(l, p("z", 7))
	holdKept(t, s)
}

// holdKept holds what one has that was made of p/1 and q/0.
func holdKept(t *testing.T, s *sig.Sig) {
	t.Helper()
	want := []sig.Pred{p("p", 1), {Name: "q", Ceil: 3, Dynamic: true}}
	if got := s.All(); !slices.Equal(got, want) {
		t.Errorf("R4: All: %s, not %s", show(got), show(want))
	}
	if got := s.Names(); !slices.Equal(got, ab()) {
		t.Errorf("R4: Names: %q", got)
	}
	got, e := s.Of(term.Atom("q"))
	if _, ok := s.Find("z", 7); ok || got != want[1] || e != api.OK {
		t.Errorf("R4: Of: %s, %d; z is there: %v", show(got), e, ok)
	}
}

func TestAnswersAreNewMemory(t *testing.T) {
	s := made(t, ab(), p("p", 1), sig.Pred{Name: "q", Ceil: 3, Dynamic: true})
	one, two := s.All(), s.All()
	first, second := s.Names(), s.Names()
	over(one, p("z", 7))
	over(first, "z")
	if !slices.Equal(two, []sig.Pred{p("p", 1), {Name: "q", Ceil: 3, Dynamic: true}}) || !slices.Equal(second, ab()) {
		t.Errorf("R4: %s and %q behind a change of other answers", show(two), second)
	}
	holdKept(t, s)
	// What is put behind one answer is in no other one.
	one, first = append(s.All(), p("z", 7)), append(s.Names(), "z")
	two, second = append(s.All(), p("y", 6)), append(s.Names(), "y")
	if one[2] != p("z", 7) || two[2] != p("y", 6) || first[2] != "z" || second[2] != "y" {
		t.Errorf("R4: answers share spare room: %s, %s, %q, %q", show(one), show(two), first, second)
	}
	holdKept(t, s)
}

func TestSigsAreApart(t *testing.T) {
	one := made(t, ab(), p("p", 1))
	two := made(t, label.Names{"c"}, sig.Pred{Name: "p", Arity: 1, Ceil: 1})
	none := made(t, ab())
	x, _ := one.Find("p", 1)
	y, _ := two.Find("p", 1)
	_, ok := none.Find("p", 1)
	if x.Ceil != 0 || y.Ceil != 1 || ok || len(none.All()) != 0 || two.Names()[0] != "c" {
		t.Errorf("P17.1: %s, %s, %v, %s, %q", show(x), show(y), ok, show(none.All()), two.Names())
	}
}
