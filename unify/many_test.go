package unify_test

import (
	"maps"
	"slices"
	"testing"

	"sizar/api"
	"sizar/bind"
	"sizar/term"
	"sizar/unify"
)

// model makes terms alike with a row of what is still to be done, and a list of all that it looked at: it asks nothing of Binds.
type model struct {
	stands map[int64]term.Term
	looked int
}

// walk tells what a term stands for.
func (m *model) walk(x term.Term) term.Term {
	if x.Kind == 0 {
		if y, ok := m.stands[x.N]; ok {
			return m.walk(y)
		}
	}
	return x
}

// through lists all that a term has, all the way in, from left to right, up to so many.
func (m *model) through(l []term.Term, x term.Term, most int) []term.Term {
	if len(l) == most {
		return l
	}
	x = m.walk(x)
	l = append(l, x)
	for _, a := range x.Args {
		l = m.through(l, a, most)
	}
	return l
}

// hang lets a variable stand for what is none, if it is not within it.
func (m *model) hang(x, y term.Term) bool {
	l := m.through(nil, y, api.MaxCells+1)
	if place := slices.IndexFunc(l, func(z term.Term) bool { return term.Same(x, z) }); place >= 0 {
		m.looked += place + 1
		return false
	}
	m.looked += len(l)
	m.stands[x.N] = y
	return true
}

// step makes one pair alike but for its Args, and tells the pairs of these.
func (m *model) step(x, y term.Term) ([][2]term.Term, bool) {
	m.looked++
	x, y = m.walk(x), m.walk(y)
	if y.Kind == 0 && (x.Kind != 0 || x.N > y.N) {
		x, y = y, x
	}
	switch {
	case x.Kind == 0 && y.Kind == 0:
		if x.N != y.N {
			m.stands[y.N] = x
		}
		return nil, true
	case x.Kind == 0:
		return nil, m.hang(x, y)
	case len(x.Args) == 0 || len(y.Args) == 0:
		return nil, term.Same(x, y)
	case x.Name != y.Name || len(x.Args) != len(y.Args):
		return nil, false
	}
	var pairs [][2]term.Term
	for i := range x.Args {
		pairs = append(pairs, [2]term.Term{x.Args[i], y.Args[i]})
	}
	return pairs, true
}

// both is Both of terms of its variables.
func (m *model) both(x, y term.Term) (bool, int, api.Errno) {
	was := maps.Clone(m.stands)
	m.looked = 0
	for todo := [][2]term.Term{{x, y}}; len(todo) > 0; {
		pairs, ok := m.step(todo[0][0], todo[0][1])
		if m.looked > api.MaxCells {
			m.stands = was
			return false, 0, api.ECELLS
		}
		if !ok {
			m.stands = was
			return false, m.looked, api.OK
		}
		todo = append(pairs, todo[1:]...)
	}
	return true, m.looked, api.OK
}

// put puts a term in place of a variable, everywhere.
func put(number int64, in, x term.Term) term.Term {
	if x.Kind == 0 && x.N == number {
		return in
	}
	if len(x.Args) == 0 {
		return x
	}
	var args []term.Term
	for _, a := range x.Args {
		args = append(args, put(number, in, a))
	}
	return term.Comp(x.Name, args...)
}

// apart tells the first two within two that are not alike, if there are such.
func apart(x, y term.Term) (term.Term, term.Term, bool) {
	if x.Kind != y.Kind || x.N != y.N || x.Name != y.Name || len(x.Args) != len(y.Args) {
		return x, y, true
	}
	for i := range x.Args {
		if a, b, ok := apart(x.Args[i], y.Args[i]); ok {
			return a, b, true
		}
	}
	return x, y, false
}

// solve tells whether two can be made alike, and what a third one is then: what is not alike yet is put in place everywhere, again and again.
func solve(x, y, third term.Term) (term.Term, bool) {
	for {
		a, b, ok := apart(x, y)
		if !ok {
			return third, true
		}
		if a.Kind != 0 {
			a, b = b, a
		}
		if a.Kind != 0 || slices.Contains(term.Vars(b), a.N) {
			return third, false
		}
		x, y, third = put(a.N, b, x), put(a.N, b, y), put(a.N, b, third)
	}
}

// alike tells whether two are the same but for the numbers of variables.
func alike(x, y term.Term) bool {
	l, r := term.Vars(x), term.Vars(y)
	if len(l) != len(r) {
		return false
	}
	const far = 1 << 20
	for i := range l {
		x, y = put(l[i], v(far+int64(i)), x), put(r[i], v(far+int64(i)), y)
	}
	return term.Same(x, y)
}

// dice tells numbers that are the same each time.
type dice uint32

func (d *dice) roll(most int) int {
	*d = *d*1664525 + 1013904223
	return int(*d>>16) % most
}

// pick tells one of some.
func pick[T any](d *dice, some ...T) T { return some[d.roll(len(some))] }

// any makes a term with such variables, at most so deep.
func (d *dice) any(count, deep int) term.Term {
	switch kind := d.roll(9); {
	case kind < 3:
		return v(int64(d.roll(count)))
	case kind == 3:
		return n(int64(d.roll(2)))
	case kind == 4 || deep <= 1:
		return at(pick(d, "a", "b", "f", ""))
	}
	args := make([]term.Term, 1+d.roll(3))
	for i := range args {
		args[i] = d.any(count, deep-1)
	}
	return term.Comp(pick(d, "f", "f", "f", "g"), args...)
}

// like makes a term of another, with some places within changed.
func (d *dice) like(x term.Term, count int) term.Term {
	switch {
	case d.roll(6) == 0:
		return v(int64(d.roll(count)))
	case d.roll(30) == 0:
		return d.any(count, 3)
	case len(x.Args) == 0:
		return x
	}
	var args []term.Term
	for _, a := range x.Args {
		args = append(args, d.like(a, count))
	}
	return term.Comp(x.Name, args...)
}

// beside are Binds and what they are held against.
type beside struct {
	b *bind.Binds
	m *model
	// how often two were made alike, were not, and were too great
	made, not, great int
}

// begin takes so many variables.
func (s *beside) begin(t *testing.T, count int) {
	s.b, s.m = fresh(t, count), &model{stands: map[int64]term.Term{}}
}

// call does one call on both.
func (s *beside) call(t *testing.T, x, y term.Term) {
	t.Helper()
	was := maps.Clone(s.m.stands)
	ok, cost, e := unify.Both(s.b, x, y)
	want, looked, should := s.m.both(x, y)
	if ok != want || cost != looked || e != should {
		t.Fatalf("P12.1: Both(%v, %v): %v, %d, %d, not %v, %d, %d (%v)", x, y, ok, cost, e, want, looked, should, was)
	}
	if s.b.Mark() != len(s.m.stands) {
		t.Fatalf("P12.1: behind Both(%v, %v) %d were set, not %d (%v)", x, y, s.b.Mark(), len(s.m.stands), was)
	}
	for i, z := range told(s.b) {
		if !term.Same(z, s.m.walk(v(int64(i)))) {
			t.Fatalf("P12.1: behind Both(%v, %v) %d stands for %v, not %v (%v)", x, y, i, z, s.m.walk(v(int64(i))), was)
		}
	}
	switch {
	case e != api.OK:
		s.great++
	case ok:
		s.made++
	default:
		s.not++
	}
}

func TestManyCallsAgainstAModel(t *testing.T) {
	d := dice(12)
	var s beside
	for range 600 {
		count := 2 + d.roll(12)
		s.begin(t, count)
		for range 12 {
			x, y := d.any(count, 1+d.roll(5)), d.any(count, 1+d.roll(5))
			if d.roll(2) == 0 {
				y = d.like(x, count)
			}
			s.call(t, x, y)
		}
	}
	if s.made < 1000 || s.not < 1000 {
		t.Errorf("%d were made alike, and %d not", s.made, s.not)
	}
}

// The great ones: of two ways, what each stands for has the next one twice, or nearly so.
func TestManyGreatOnesAgainstAModel(t *testing.T) {
	d := dice(4)
	var s beside
	for range 40 {
		const count = 40
		s.begin(t, count)
		for i := range int64(10) {
			s.call(t, v(i), f(v(i+1), v(i+1)))
			s.call(t, v(i+20), f(v(i+21), pick(&d, v(i+21), v(i+21), v(39), n(0))))
		}
		for range 20 {
			x, y := v(int64(d.roll(count))), v(int64(d.roll(count)))
			many := 1 + d.roll(api.MaxCells-2)
			s.call(t, x, y)
			s.call(t, f(row(many, y), x), f(row(many, x), y))
			s.call(t, f(x, row(many, n(0))), f(y, row(many, x)))
			s.call(t, x, row(many, y))
		}
	}
	if s.made < 500 || s.not < 500 || s.great < 150 {
		t.Errorf("%d were made alike, %d not, and %d were too great", s.made, s.not, s.great)
	}
}

// small are terms of all forms, that have none or some of few within.
func small() []term.Term {
	l := []term.Term{v(0), v(1), v(2), n(0), at("a"), at("f")}
	for _, x := range slices.Clone(l[:5]) {
		l = append(l, f(x), g(x), f(f(x)))
		for _, y := range l[:5] {
			l = append(l, f(x, y), f(f(x), y), f(x, f(y)))
		}
	}
	return l
}

// holdMeaning holds two made alike against what comes of putting terms in place of variables: they are made so, if they can be, and no more is told of any variable than must be.
func holdMeaning(t *testing.T, count int, x, y term.Term) bool {
	t.Helper()
	var all []term.Term
	for i := range int64(count) {
		all = append(all, v(i))
	}
	third, want := solve(x, y, f(all...))
	b := fresh(t, count)
	ok, _, e := unify.Both(b, x, y)
	if ok != want || e != api.OK {
		t.Fatalf("P12.1: Both(%v, %v): %v, %d, not %v", x, y, ok, e, want)
	}
	if !ok {
		return false
	}
	l, _ := b.Whole(x)
	r, _ := b.Whole(y)
	if !term.Good(l) || !term.Same(l, r) {
		t.Errorf("P12.1: Both(%v, %v) makes %v of the one, and %v of the other", x, y, l, r)
	}
	if z, e := b.Whole(f(all...)); e != api.OK || !alike(z, third) {
		t.Errorf("P12.1: Both(%v, %v) makes of all variables %v, not %v", x, y, z, third)
	}
	return true
}

func TestAllSmallTerms(t *testing.T) {
	l := small()
	for _, x := range l {
		for _, y := range l {
			holdMeaning(t, 3, x, y)
			z := put(0, v(3), put(1, v(4), put(2, v(5), y)))
			if _, want := solve(x, z, x); unify.Could(x, y) != want {
				t.Errorf("P12.1: Could(%v, %v): not %v", x, y, want)
			}
		}
	}
}

// With some variables standing for others ahead of it, small ones are made alike as the model makes them.
func TestAllSmallTermsBehindAnother(t *testing.T) {
	l := small()
	var s beside
	for _, first := range [][2]term.Term{{v(0), v(1)}, {v(2), v(1)}, {v(0), f(v(1))}, {v(1), f(v(0), v(0))}, {v(0), at("a")}, {f(v(0), v(1)), f(v(1), v(2))}, {f(v(0), v(1)), f(f(v(1)), f(v(2)))}} {
		s.begin(t, 3)
		s.call(t, first[0], first[1])
		mark, was := s.b.Mark(), maps.Clone(s.m.stands)
		for _, x := range l {
			for _, y := range l {
				s.call(t, x, y)
				s.b.Undo(mark)
				s.m.stands = maps.Clone(was)
			}
		}
	}
	if s.made < 1000 || s.not < 1000 {
		t.Errorf("%d were made alike, and %d not", s.made, s.not)
	}
}

func TestWhatManyTermsMean(t *testing.T) {
	d := dice(21)
	var made, not, could int
	for range 6000 {
		x, y := d.any(6, 3), d.any(6, 3)
		if d.roll(3) > 0 {
			y = d.like(x, 6)
		}
		if holdMeaning(t, 6, x, y) {
			made++
		} else {
			not++
		}
		z := y
		for i := range int64(6) {
			z = put(i, v(i+6), z)
		}
		_, want := solve(x, z, x)
		holdCould(t, "two of many", x, y, want)
		if want {
			could++
		}
	}
	if made < 1000 || not < 1000 || could < made {
		t.Errorf("%d were made alike, %d not; %d could be", made, not, could)
	}
}
