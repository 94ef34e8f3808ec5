package bind_test

import (
	"slices"
	"testing"

	"sizar/api"
	"sizar/bind"
	"sizar/term"
)

// model has what variables stand for as it was told, one behind another. What it tells, it looks up from nothing else.
type model struct {
	vars int
	set  []given
}

// given is what one variable was told to stand for.
type given struct {
	number int64
	term   term.Term
}

// find tells what a variable was told to stand for.
func (m *model) find(number int64) (term.Term, bool) {
	for _, g := range m.set {
		if g.number == number {
			return g.term, true
		}
	}
	return term.Term{}, false
}

// fits tells whether a term may be, of its variables.
func (m *model) fits(x term.Term) bool {
	return term.Good(x) && !slices.ContainsFunc(term.Vars(x), func(number int64) bool { return number >= int64(m.vars) })
}

// walk tells what a term stands for.
func (m *model) walk(x term.Term) term.Term {
	if x.Kind == 0 {
		if y, ok := m.find(x.N); ok {
			return m.walk(y)
		}
	}
	return x
}

// rest tells the variables that a term has, all the way in: those of its own, and then again and again those of what they were told to stand for, till there are no others.
func (m *model) rest(x term.Term) []int64 {
	has := term.Vars(x)
	for i := 0; i < len(has); i++ {
		y, ok := m.find(has[i])
		if !ok {
			continue
		}
		for _, number := range term.Vars(y) {
			if !slices.Contains(has, number) {
				has = append(has, number)
			}
		}
	}
	return has
}

// isSet tells whether a variable was told to stand for something.
func (m *model) isSet(number int64) bool {
	_, ok := m.find(number)
	return ok
}

// tell is Set.
func (m *model) tell(number int64, x term.Term) api.Errno {
	switch {
	case number < 0 || number >= int64(m.vars) || !m.fits(x):
		return api.EARG
	case m.isSet(number):
		return api.EPERM
	case slices.Contains(m.rest(x), number):
		return api.ETYPE
	}
	m.set = append(m.set, given{number, x})
	return api.OK
}

// looked are the terms that are looked at one behind another, each walked, up to so many.
func (m *model) looked(l []term.Term, x term.Term, most int) []term.Term {
	if len(l) == most {
		return l
	}
	x = m.walk(x)
	l = append(l, x)
	for _, a := range x.Args {
		l = m.looked(l, a, most)
	}
	return l
}

// has is Has.
func (m *model) has(number int64, in term.Term, most int) (bool, int) {
	if !m.fits(in) {
		return false, 0
	}
	most = max(most, 0)
	l := m.looked(nil, in, most+1)
	if place := slices.IndexFunc(l, func(x term.Term) bool { return x.Kind == 0 && x.N == number }); place >= 0 {
		return true, place + 1
	}
	return len(l) > most, len(l)
}

// whole is Whole: all that is looked at, put together from behind.
func (m *model) whole(x term.Term) (term.Term, api.Errno) {
	if !m.fits(x) {
		return term.Term{}, api.EARG
	}
	l := m.looked(nil, x, api.MaxCells+1)
	if len(l) > api.MaxCells {
		return term.Term{}, api.ECELLS
	}
	var pile []term.Term
	for _, y := range slices.Backward(l) {
		args := slices.Clone(pile[len(pile)-len(y.Args):])
		slices.Reverse(args)
		pile = pile[:len(pile)-len(y.Args)]
		if len(args) > 0 {
			y = term.Comp(y.Name, args...)
		}
		pile = append(pile, y)
	}
	if !term.Good(pile[0]) {
		return term.Term{}, api.ECELLS
	}
	return pile[0], api.OK
}

// dice tells numbers that are the same each time.
type dice uint32

func (d *dice) roll(most int) int {
	*d = *d*1664525 + 1013904223
	return int(*d>>16) % most
}

// any makes a term with such variables, at most so deep.
func (d *dice) any(vars, deep int) term.Term {
	switch kind := d.roll(9); {
	case kind < 3:
		return v(int64(d.roll(vars)))
	case kind == 3:
		return n(int64(d.roll(vars)))
	case kind == 4 || deep <= 1:
		return at([]string{"a", "b", "[]", ""}[d.roll(4)])
	}
	args := make([]term.Term, d.roll(4))
	for i := range args {
		args[i] = d.any(vars, deep-1)
	}
	return term.Comp([]string{"f", "g", "."}[d.roll(3)], args...)
}

// great makes one that is deep, or of many, with a variable at its end.
func (d *dice) great(vars int) term.Term {
	if d.roll(2) == 0 {
		return chain(1+d.roll(api.MaxDepth), v(int64(d.roll(vars))))
	}
	return wide(1+d.roll(api.MaxCells), v(int64(d.roll(vars))))
}

// number makes the number of a variable, mostly of one that there is.
func (d *dice) number(vars int) int64 { return int64(d.roll(vars+3) - 1) }

// both are Binds and what they are held against.
type both struct {
	b *bind.Binds
	m *model
	d *dice
	// how often each error was answered, and what Has told
	errors [api.EFULL + 1]int
	found  [2]int
	undone int
}

// holdSame holds the one against the other in all that they tell.
func (s *both) holdSame(t *testing.T) {
	t.Helper()
	if s.b.Len() != s.m.vars || s.b.Mark() != len(s.m.set) {
		t.Fatalf("P11.1: Len %d, not %d; Mark %d, not %d", s.b.Len(), s.m.vars, s.b.Mark(), len(s.m.set))
	}
	for i := range int64(s.m.vars) {
		s.holdTerm(t, v(i))
	}
}

// holdTerm holds what is told of one term.
func (s *both) holdTerm(t *testing.T, x term.Term) {
	t.Helper()
	if got, want := s.b.Walk(x), s.m.walk(x); !term.Same(got, want) && term.Good(want) {
		t.Fatalf("P11.1: Walk(%v): %v, not %v (%v)", x, got, want, s.m.set)
	}
	got, e := s.b.Whole(x)
	want, should := s.m.whole(x)
	if !term.Same(got, want) || e != should {
		t.Fatalf("P11.1: Whole(%v): %v, %d, not %v, %d (%v)", x, got, e, want, should, s.m.set)
	}
	s.errors[e]++
	number, most := s.d.number(s.m.vars), s.d.roll(12)-1
	if s.d.roll(3) == 0 {
		most = s.d.roll(4000)
	}
	has, many := s.b.Has(number, x, most)
	if should, count := s.m.has(number, x, most); has != should || many != count {
		t.Fatalf("P11.1: Has(%d, %v, %d): %v, %d, not %v, %d (%v)", number, x, most, has, many, should, count, s.m.set)
	}
	if has && many <= most {
		s.found[1]++
	} else if !has {
		s.found[0]++
	}
}

// tell tells both the same.
func (s *both) tell(t *testing.T, number int64, x term.Term) {
	t.Helper()
	e, want := s.b.Set(number, x), s.m.tell(number, x)
	if e != want {
		t.Fatalf("P11.1: Set(%d, %v): %d, not %d (%v)", number, x, e, want, s.m.set)
	}
	s.errors[e]++
}

// call does one call of some kind on both.
func (s *both) call(t *testing.T) {
	t.Helper()
	switch kind := s.d.roll(12); {
	case kind == 0:
		holdFresh(t, s.b, int64(s.m.vars))
		s.m.vars++
	case kind < 8 && s.m.vars > 0:
		s.tell(t, s.d.number(s.m.vars), s.d.any(s.m.vars+s.d.roll(6)/5, 1+s.d.roll(4)))
	case kind == 8 && s.m.vars > 0 && s.d.roll(2) == 0:
		s.tell(t, s.d.number(s.m.vars), s.d.great(s.m.vars))
	case kind < 10:
		s.holdTerm(t, s.d.any(s.m.vars+1, 4))
	case kind == 10:
		mark := len(s.m.set) + s.d.roll(3) - 1
		if s.d.roll(12) == 0 {
			mark = s.d.roll(len(s.m.set) + 1)
		}
		ok := 0 <= mark && mark <= len(s.m.set)
		if s.b.Undo(mark) != ok {
			t.Fatalf("P11.1: Undo(%d) of %d", mark, len(s.m.set))
		}
		if ok {
			s.undone += len(s.m.set) - mark
			s.m.set = s.m.set[:mark]
		}
	}
}

func TestManyCallsAgainstAModel(t *testing.T) {
	d := dice(11)
	s := both{d: &d}
	for range 400 {
		s.b, s.m = bind.New(), &model{}
		for range d.roll(12) {
			holdFresh(t, s.b, int64(s.m.vars))
			s.m.vars++
		}
		for range 50 {
			s.call(t)
			s.holdSame(t)
		}
	}
	for _, e := range []api.Errno{api.OK, api.EARG, api.EPERM, api.ETYPE, api.ECELLS} {
		if s.errors[e] < 50 {
			t.Errorf("error %d was answered only %d times", e, s.errors[e])
		}
	}
	if s.found[0] < 1000 || s.found[1] < 1000 || s.undone < 300 {
		t.Errorf("Has found %d, and not %d; undone were %d", s.found[1], s.found[0], s.undone)
	}
}

// Of few variables each way to set two of them, one behind the other, is gone, and back.
func TestAllSmallOnes(t *testing.T) {
	const vars = 3
	var l []term.Term
	for i := range int64(vars + 1) {
		l = append(l, v(i))
	}
	l = append(l, n(0), at("a"))
	for _, x := range slices.Clone(l) {
		for _, y := range slices.Clone(l[:vars]) {
			l = append(l, f(x, y))
		}
	}
	d := dice(3)
	s := both{b: fresh(t, vars), m: &model{vars: vars}, d: &d}
	for first := range int64(vars) {
		for _, x := range l {
			s.tell(t, first, x)
			for second := range int64(vars) {
				for _, y := range l {
					s.tell(t, second, y)
					s.holdSame(t)
					s.back(t, min(1, len(s.m.set)))
				}
			}
			s.back(t, 0)
		}
	}
}

// back undoes both.
func (s *both) back(t *testing.T, mark int) {
	t.Helper()
	if !s.b.Undo(mark) {
		t.Fatalf("P11.1: Undo(%d) of %d", mark, len(s.m.set))
	}
	s.m.set = s.m.set[:mark]
}

// What is told to two is told by both alike.
func TestTwoThatAreToldTheSame(t *testing.T) {
	d := dice(77)
	a, b := fresh(t, 12), fresh(t, 12)
	for range 3000 {
		number, x, mark := d.number(12), d.any(13, 4), d.roll(30)
		if a.Set(number, x) != b.Set(number, x) || (d.roll(4) == 0 && a.Undo(mark) != b.Undo(mark)) {
			t.Fatalf("R5: Set(%d, %v), Undo(%d)", number, x, mark)
		}
		// What one is asked beside changes nothing.
		a.Walk(x)
		a.Whole(x)
		a.Has(number, x, mark)
		a.Set(-1, x)
		a.Undo(-1)
	}
	for i := range int64(12) {
		if !term.Same(a.Walk(v(i)), b.Walk(v(i))) {
			t.Errorf("R5: Walk(%d): %v and %v", i, a.Walk(v(i)), b.Walk(v(i)))
		}
	}
}
