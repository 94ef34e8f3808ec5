package code_test

import (
	"fmt"
	"math"
	"slices"
	"testing"

	"sizar/alias"
	"sizar/api"
	"sizar/code"
	"sizar/term"
	"sizar/unify"
)

// dice tells numbers, the same ones each time.
type dice uint64

// upTo tells one from 0 to most.
func (d *dice) upTo(most int) int {
	*d = *d*6364136223846793005 + 1442695040888963407
	return int(*d>>33) % (most + 1)
}

// some makes a term of no more depth than that, of so many variables.
func (d *dice) some(deep, vars int) term.Term {
	kind := d.upTo(9)
	switch {
	case kind < 3 && vars > 0:
		return v(int64(d.upTo(vars - 1)))
	case kind < 4:
		return n(int64(d.upTo(1)))
	case kind < 5 || deep == 1:
		return at([]string{"a", "f", ""}[d.upTo(2)])
	}
	return d.named([]string{"f", "g"}[d.upTo(1)], d.upTo(2)/2+1, deep, vars)
}

// named makes a name with so many Args.
func (d *dice) named(name string, args, deep, vars int) term.Term {
	var l []term.Term
	for range args {
		l = append(l, d.some(deep-1, vars))
	}
	return term.Comp(name, l...)
}

// model matches a head itself, not its steps: it asks nothing of Binds, but puts terms in place of variables everywhere.
type model struct {
	all   term.Term       // p of the args, as they are now
	next  int64           // the number of the next new variable
	slots map[int64][]int // where the head's variables first stood
}

// todo is a part of the head, and where the arg's is.
type todo struct {
	part  term.Term
	place []int
}

// look tells what is at a place.
func (m *model) look(place []int) term.Term {
	x := m.all
	for _, i := range place {
		x = x.Args[i]
	}
	return x
}

// put puts a term in place of a variable, everywhere.
func put(number int64, in, x term.Term) term.Term {
	if x.Kind == 0 && x.N == number {
		return in
	}
	if len(x.Args) == 0 {
		return x
	}
	var args []term.Term
	for _, a := range x.Args {
		args = append(args, put(number, in, a))
	}
	return term.Comp(x.Name, args...)
}

// apart tells the first two within two that are not alike, if there are such.
func apart(x, y term.Term) (term.Term, term.Term, bool) {
	if x.Kind != y.Kind || x.N != y.N || x.Name != y.Name || len(x.Args) != len(y.Args) {
		return x, y, true
	}
	for i := range x.Args {
		if a, b, ok := apart(x.Args[i], y.Args[i]); ok {
			return a, b, true
		}
	}
	return term.Term{}, term.Term{}, false
}

// alike makes two alike.
func (m *model) alike(x, y term.Term) bool {
	for {
		a, b, ok := apart(x, y)
		if !ok {
			return true
		}
		if b.Kind == 0 && (a.Kind != 0 || b.N > a.N) {
			a, b = b, a
		}
		if a.Kind != 0 || slices.Contains(term.Vars(b), a.N) {
			return false
		}
		x, y, m.all = put(a.N, b, x), put(a.N, b, y), put(a.N, b, m.all)
	}
}

// step does what is to be done of one part of the head, but for its Args.
func (m *model) step(d todo) bool {
	x := m.look(d.place)
	if d.part.Kind == 0 {
		place, ok := m.slots[d.part.N]
		if !ok {
			m.slots[d.part.N] = d.place
			return true
		}
		return m.alike(x, m.look(place))
	}
	if len(d.part.Args) > 0 && x.Kind == 0 {
		var args []term.Term
		for range d.part.Args {
			args = append(args, v(m.next))
			m.next++
		}
		m.all = put(x.N, term.Comp(d.part.Name, args...), m.all)
		return true
	}
	if len(d.part.Args) > 0 {
		return x.Name == d.part.Name && len(x.Args) == len(d.part.Args)
	}
	return m.alike(x, d.part)
}

// match makes the args alike with a head, one depth behind another.
func (m *model) match(head term.Term) bool {
	row := []todo{{part: head}}
	for i := 0; i < len(row); i++ {
		if i > 0 && !m.step(row[i]) {
			return false
		}
		for k, a := range row[i].part.Args {
			row = append(row, todo{part: a, place: append(slices.Clone(row[i].place), k)})
		}
	}
	return true
}

// holdModel holds a Match against the model: of args of so many variables, of which the last ones stand for something.
func holdModel(t *testing.T, head term.Term, args []term.Term, vars int, stand []term.Term) bool {
	t.Helper()
	b := fresh(t, vars)
	set(t, b, int64(vars-len(stand)), stand...)
	m := model{all: p(wholes(t, b, args)...), next: int64(vars), slots: map[int64][]int{}}
	was := m.all
	c, _ := code.Head(head)
	if !m.match(head) {
		holdNot(t, "what the model tells apart", b, c, args, api.OK, int(m.next)-vars)
		if unify.Could(p(head.Args...), was) {
			t.Errorf("P15.2: %s and %s could be made alike", show(head), show(was))
		}
		return false
	}
	var slots []term.Term
	for _, number := range term.Vars(head) {
		slots = append(slots, m.look(m.slots[number]))
	}
	holdTrue(t, b, c, args, m.all.Args, slots, int(m.next)-vars)
	if !unify.Could(p(head.Args...), was) {
		t.Errorf("P15.2: %s and %s could not be made alike", show(head), show(was))
	}
	return true
}

// smalls are all terms of two variables, an atom, a number and one name, of up to so many.
func smalls(size int) []term.Term {
	by := make([][]term.Term, size+1)
	by[1] = []term.Term{v(0), v(1), at("a"), n(1)}
	for k := 2; k <= size; k++ {
		for _, x := range by[k-1] {
			by[k] = append(by[k], f(x))
		}
		for i := 1; i < k-1; i++ {
			for _, x := range by[i] {
				for _, y := range by[k-1-i] {
					by[k] = append(by[k], f(x, y))
				}
			}
		}
	}
	return slices.Concat(by...)
}

// Every small head, by every small call.
func TestMatchOfAllSmallOnes(t *testing.T) {
	some := smalls(3)
	tell := map[bool]int{}
	for i, x := range some {
		for k, y := range some {
			for j, z := range some {
				tell[holdModel(t, p(x, y), []term.Term{z, some[(i+k+j)%len(some)]}, 2, nil)]++
			}
			tell[holdModel(t, p(x), []term.Term{y}, 2, nil)]++
		}
	}
	if tell[true] < 1000 || tell[false] < 1000 {
		t.Errorf("P15.2: %d are true, %d not: too few to tell", tell[true], tell[false])
	}
}

func TestMatchOfManyOthers(t *testing.T) {
	d := dice(15)
	tell := map[bool]int{}
	for range 60000 {
		arity := 1 + d.upTo(2)
		head := d.named("p", arity, 4, 1+d.upTo(3))
		vars := 1 + d.upTo(3)
		args := d.named("p", arity, 4, vars).Args
		// each that stands for something does for a term of those ahead of it.
		var stand []term.Term
		for i := range d.upTo(2) {
			stand = append(stand, d.some(3, vars+i))
		}
		for i := range stand {
			args = append(args, v(int64(vars+i)))
			head.Args = append(head.Args, d.some(2, 3))
		}
		tell[holdModel(t, head, args, vars+len(stand), stand)]++
	}
	if tell[true] < 5000 || tell[false] < 5000 {
		t.Errorf("P15.2: %d are true, %d not: too few to tell", tell[true], tell[false])
	}
}

// A head and what becomes of it by terms in place of its variables are always made alike.
func TestMatchOfWhatIsMadeOfTheHead(t *testing.T) {
	d := dice(7)
	for range 5000 {
		head := d.named("p", 1+d.upTo(3), 4, 4)
		made := head
		// variables of their own: so that none is put in place of itself.
		for number := range int64(4) {
			x, _, _ := alias.From(d.some(3, 2), 10)
			made = put(number, x, made)
		}
		made, _ = alias.Plain(made)
		vars := len(term.Vars(made))
		if term.Good(made) && !holdModel(t, head, made.Args, vars, nil) {
			t.Errorf("P15.2: Match of %s: %s: false", show(head), show(made))
		}
	}
}

// What Head makes is Good, and Back makes it the head again but for its variables' numbers, whatever they are.
func TestManyHeads(t *testing.T) {
	d := dice(3)
	for range 20000 {
		x := d.named([]string{"p", "", "f"}[d.upTo(2)], d.upTo(3), 6, 5)
		c, e := code.Head(x)
		plain, _ := alias.Plain(x)
		if e != api.OK || !code.Good(c) {
			t.Errorf("P15.1: Head(%s): %s, %d", show(x), show(c), e)
		}
		if y, e := code.Back(c, x.Name); e != api.OK || !term.Same(y, plain) {
			t.Errorf("P15.1: Back(%s, %q): %s, %d; not %s", show(c), x.Name, show(y), e, show(plain))
		}
		if again, e := code.Head(plain); e != api.OK || !equal(again, c) {
			t.Errorf("P15.1: Head(%s): %s, %d; not %s", show(plain), show(again), e, show(c))
		}
	}
}

// ends are what stands at an end of a small head: different variables, or the same.
func ends() []term.Term {
	return []term.Term{v(0), v(1), v(2), n(0), n(1), at(""), at("f")}
}

// shapes are all heads of so many registers, with those ends.
func shapes(regs int) [][]term.Term {
	if regs == 0 {
		return [][]term.Term{nil}
	}
	var out [][]term.Term
	for own := 1; own <= regs; own++ {
		for _, rest := range shapes(regs - own) {
			for _, x := range ends() {
				if own == 1 {
					out = append(out, append([]term.Term{x}, rest...))
				}
			}
			for _, inner := range shapes(own - 1) {
				if own > 1 {
					out = append(out, append([]term.Term{f(inner...)}, rest...), append([]term.Term{term.Comp("", inner...)}, rest...))
				}
			}
		}
	}
	return out
}

// orders are all orders of so many numbers.
func orders(count int) [][]int {
	if count == 0 {
		return [][]int{nil}
	}
	var out [][]int
	for _, rest := range orders(count - 1) {
		for i := range count {
			out = append(out, slices.Insert(slices.Clone(rest), i, count-1))
		}
	}
	return out
}

// goods are all codes of so many registers that some head makes, with its slots in every order: by what they say.
func goods(regs int) map[string]code.Code {
	all := map[string]code.Code{}
	for _, args := range shapes(regs) {
		c, _ := code.Head(p(args...))
		for _, order := range orders(c.Slots) {
			d := copied(c)
			for i, in := range d.L {
				if in.Op == "var" || in.Op == "val" {
					d.L[i].B = order[in.B]
				}
			}
			all[fmt.Sprint(d)] = d
		}
	}
	return all
}

// changed are steps with one field that is another one.
func changed(in code.Ins) []code.Ins {
	var out []code.Ins
	add := func(to func(in *code.Ins)) {
		other := in
		to(&other)
		out = append(out, other)
	}
	for _, op := range []string{"var", "val", "int", "atom", "comp", "", "Var"} {
		add(func(in *code.Ins) { in.Op = op })
		// the fields that another Op does not have are made zero, too.
		add(func(in *code.Ins) { *in = code.Ins{Op: op, A: in.A, B: in.B} })
		add(func(in *code.Ins) { *in = code.Ins{Op: op, A: in.A, Name: in.Name} })
	}
	for other := -1; other <= 4; other++ {
		add(func(in *code.Ins) { in.A = other })
		add(func(in *code.Ins) { in.B = other })
		add(func(in *code.Ins) { in.C = other })
	}
	for other := range int64(2) {
		add(func(in *code.Ins) { in.N = other })
	}
	for _, name := range []string{"", "f"} {
		add(func(in *code.Ins) { in.Name = name })
	}
	return out
}

// near are codes with one or two things that are others.
func near(c code.Code) []code.Code {
	var out []code.Code
	for i := range c.L {
		for _, in := range changed(c.L[i]) {
			d := copied(c)
			d.L[i] = in
			out = append(out, d)
			for slots := range 4 {
				d.Slots = slots
				out = append(out, d)
			}
		}
		d := copied(c)
		d.L = slices.Delete(d.L, i, i+1)
		out = append(out, d)
		for k := range i {
			d := copied(c)
			d.L[i], d.L[k] = d.L[k], d.L[i]
			out = append(out, d)
			d = copied(d)
			d.L[i].A, d.L[k].A = i, k
			out = append(out, d)
		}
	}
	for other := -1; other <= 4; other++ {
		d, e, f := c, c, c
		d.Arity, e.Slots, f.Regs = other, other, other
		out = append(out, d, e, f)
	}
	return out
}

// Of all small codes that are but little other than those that heads make, just those are Good that some head makes, too, with its slots in some order.
func TestGoodIsWhatSomeHeadMakes(t *testing.T) {
	may, not := 0, 0
	for regs := range 4 {
		all := goods(regs)
		for _, c := range all {
			for _, d := range near(c) {
				_, want := all[fmt.Sprint(d)]
				if len(d.L) != regs {
					want = false
				}
				if code.Good(d) != want {
					t.Fatalf("P15.1: Good(%s): %v", show(d), !want)
				}
				x, e := code.Back(d, "p")
				if want && (e != api.OK || len(x.Args) != d.Arity) || !want && (e != api.EARG || !none(x)) {
					t.Fatalf("P15.1: Back(%s): %s, %d", show(d), show(x), e)
				}
				if want {
					may++
				} else {
					not++
				}
			}
		}
	}
	if may < 1000 || not < 1000 {
		t.Errorf("P15.1: %d are Good, %d not: too few to tell", may, not)
	}
}

// Every code of up to two steps, of fields from -1 to 2.
func TestGoodOfAllSmallOnes(t *testing.T) {
	var l []code.Ins
	for _, op := range []string{"var", "val", "int", "atom", "comp"} {
		for a := range 2 {
			for b := -1; b <= 2; b++ {
				for c := range 3 {
					l = append(l, code.Ins{Op: op, A: a, B: b, C: c})
				}
			}
		}
	}
	// what heads make has names and numbers that may be zero here.
	all := map[string]code.Code{}
	for regs := range 3 {
		for key, c := range goods(regs) {
			all[key] = c
		}
	}
	hold := func(c code.Code) {
		if _, want := all[fmt.Sprint(c)]; code.Good(c) != want {
			t.Fatalf("P15.1: Good(%s): %v", show(c), !want)
		}
	}
	for arity := -1; arity <= 3; arity++ {
		for slots := -1; slots <= 3; slots++ {
			hold(code.Code{Arity: arity, Slots: slots})
			for _, x := range l {
				hold(steps(arity, slots, x))
				for _, y := range l {
					if x.A == 0 && y.A == 1 {
						hold(steps(arity, slots, x, y))
					}
				}
			}
		}
	}
}

// Whatever a code is, each call ends, and tells EARG just where Good is false.
func TestAnyCode(t *testing.T) {
	d := dice(1)
	fields := []int{math.MinInt, -1, 0, 1, 2, 3, 8, 9, 2000, 2001, math.MaxInt}
	ops := []string{"var", "val", "int", "atom", "comp", "", "x"}
	for range 30000 {
		var c code.Code
		for i := range d.upTo(4) {
			in := code.Ins{Op: ops[d.upTo(6)], A: i}
			for _, field := range []*int{&in.B, &in.C} {
				if d.upTo(1) == 0 {
					*field = fields[d.upTo(10)]
				}
			}
			c.L = append(c.L, in)
		}
		c.Arity, c.Slots, c.Regs = fields[d.upTo(10)], fields[d.upTo(10)], len(c.L)
		args := slices.Repeat([]term.Term{v(0)}, min(max(c.Arity, 0), 9))
		_, e := code.Back(c, "p")
		_, _, m := code.Match(fresh(t, 1), c, args)
		if good := code.Good(c); good != (e == api.OK) || good != (m == api.OK) {
			t.Fatalf("P15.1: Good(%s): %v; Back %d, Match %d", show(c), good, e, m)
		}
	}
}
