package alias_test

import (
	"slices"
	"strconv"
	"testing"

	"sizar/alias"
	"sizar/api"
	"sizar/term"
	"sizar/unify"
)

// flat lists all that a term has, from left to right, each without its Args but with how many there are: no two terms that may be are listed alike.
func flat(x term.Term) []term.Term {
	l := []term.Term{{Kind: x.Kind, N: x.N, Name: x.Name + "/" + strconv.Itoa(len(x.Args))}}
	for _, a := range x.Args {
		l = append(l, flat(a)...)
	}
	return l
}

// numbered numbers the variables of a flat list by where they first stand.
func numbered(l []term.Term, first int64) ([]term.Term, int64) {
	var met []int64
	for i, x := range l {
		if x.Kind != 0 {
			continue
		}
		place := slices.Index(met, x.N)
		if place < 0 {
			place = len(met)
			met = append(met, x.N)
		}
		l[i].N = first + int64(place)
	}
	return l, first + int64(len(met))
}

// turned tells whether two flat lists are alike when each variable of the one is put against just one of the other, and that against just this.
func turned(a, b []term.Term) bool {
	if len(a) != len(b) {
		return false
	}
	for i, x := range a {
		y := b[i]
		if x.Kind != y.Kind || x.Name != y.Name || x.Kind != 0 && x.N != y.N {
			return false
		}
		for j := range i {
			if x.Kind == 0 && a[j].Kind == 0 && (a[j].N == x.N) != (b[j].N == y.N) {
				return false
			}
		}
	}
	return true
}

// stood tells what stands in one term where another first has a variable, if anything does there.
func stood(number int64, a, b term.Term) (term.Term, bool) {
	if a.Kind == 0 && a.N == number {
		return b, true
	}
	for i := range min(len(a.Args), len(b.Args)) {
		if x, ok := stood(number, a.Args[i], b.Args[i]); ok {
			return x, true
		}
	}
	return term.Term{}, false
}

// put makes a term with others in place of its variables, all at once.
func put(x term.Term, in func(number int64) term.Term) term.Term {
	if x.Kind == 0 {
		return in(x.N)
	}
	var args []term.Term
	for _, a := range x.Args {
		args = append(args, put(a, in))
	}
	x.Args = args
	return x
}

// more tells whether a term is another one with what stands there in place of its variables.
func more(a, b term.Term) bool {
	return equal(b, put(a, func(number int64) term.Term {
		x, ok := stood(number, a, b)
		if !ok {
			// It is somewhere where the other one has nothing: so they are not alike whatever this is.
			return at("nowhere")
		}
		return x
	}))
}

// fixed makes atoms of variables, of names that are nobody's.
func fixed(x term.Term) term.Term {
	return put(x, func(number int64) term.Term { return at("\t" + strconv.FormatInt(number, 10)) })
}

// holdModel holds what is answered of two against what goes by lists of all that they have, and against what unify could make alike.
func holdModel(t *testing.T, a, b term.Term) (bool, bool, bool) {
	t.Helper()
	alike := turned(flat(a), flat(b))
	holdBoth(t, show(a)+" and "+show(b), a, b, alike, more(a, b), more(b, a))
	if could := unify.Could(a, fixed(b)); could != alias.More(a, b) {
		t.Errorf("P13.1: More(%s, %s) is %v, and with the variables made atoms they could be made alike: %v", show(a), show(b), alias.More(a, b), could)
	}
	// Two are alike just if each is more than the other one.
	if alias.Alike(a, b) != (alias.More(a, b) && alias.More(b, a)) {
		t.Errorf("P13.1: Alike(%s, %s) is %v, and More is another", show(a), show(b), alias.Alike(a, b))
	}
	return alike, more(a, b), more(b, a)
}

// holdRenamed holds what From answers of one against what goes by a list of all that it has.
func holdRenamed(t *testing.T, x term.Term, first int64) {
	t.Helper()
	got, next, e := alias.From(x, first)
	want, behind := numbered(flat(x), first)
	if behind-1 > lastVar {
		holdRefused(t, show(x), x, first, api.EOVER)
		return
	}
	if e != api.OK || next != behind || !slices.EqualFunc(flat(got), want, equal) {
		t.Errorf("P13.1: From(%s, %d): %s, %d, %d", show(x), first, show(got), next, e)
	}
	again, next, e := alias.From(got, first)
	if e != api.OK || next != behind || !equal(again, got) {
		t.Errorf("P13.1: From of what From(%s, %d) told is %s, %d, %d", show(x), first, show(again), next, e)
	}
	holdBoth(t, show(x)+" and it renamed", x, got, true, true, true)
	holdGround(t, show(x), x, behind == first)
}

// small are terms of all forms, that have none or up to three of some within.
func small() []term.Term {
	some := []term.Term{v(0), v(1), v(2), n(0), at("a")}
	l := slices.Clone(some)
	for _, x := range some {
		l = append(l, f(x), g(x), f(f(x)), f(g(x)), f(f(x, x)))
		for _, y := range some {
			l = append(l, f(x, y), f(x, f(y)), f(f(x), y), f(f(x), f(y)), f(f(x, y)))
			for _, z := range some {
				l = append(l, f(x, y, z))
			}
		}
	}
	return l
}

func TestAllSmallTerms(t *testing.T) {
	l := small()
	for i, a := range l {
		for _, first := range []int64{0, 1, 2, 5, lastVar - 1, lastVar} {
			holdRenamed(t, a, first)
		}
		for _, b := range l[i:] {
			holdModel(t, a, b)
		}
	}
}

// dice tells numbers that are the same each time.
type dice uint32

func (d *dice) roll(most int) int {
	*d = *d*1664525 + 1013904223
	return int(*d>>16) % most
}

// pick tells one of some.
func pick[T any](d *dice, some ...T) T { return some[d.roll(len(some))] }

// any makes a term with such variables, at most so deep.
func (d *dice) any(count, deep int) term.Term {
	switch kind := d.roll(9); {
	case kind < 3:
		return v(int64(d.roll(count)))
	case kind == 3:
		return n(int64(d.roll(3)))
	case kind == 4 || deep <= 1:
		return at(pick(d, "a", "b", "f", ""))
	}
	args := make([]term.Term, 1+d.roll(3))
	for i := range args {
		args[i] = d.any(count, deep-1)
	}
	return term.Comp(pick(d, "f", "f", "f", "g"), args...)
}

// become makes a term of another with some in place of its variables, each one the same everywhere.
func (d *dice) become(x term.Term, count int) term.Term {
	var l []term.Term
	for range count {
		l = append(l, pick(d, v(int64(d.roll(count))), v(int64(d.roll(count))), d.any(count, 2)))
	}
	return put(x, func(number int64) term.Term { return l[number] })
}

// other makes a term of another, with one place within changed.
func (d *dice) other(x term.Term, count int) term.Term {
	if len(x.Args) == 0 || d.roll(9) == 0 {
		return d.any(count, 2)
	}
	x.Args = slices.Clone(x.Args)
	place := d.roll(len(x.Args))
	x.Args[place] = d.other(x.Args[place], count)
	return x
}

func TestManyTerms(t *testing.T) {
	d := dice(13)
	var alike, ahead, behind, apart int
	for range 6000 {
		count := 1 + d.roll(5)
		a := d.any(count, pick(&d, 2, 4, 6))
		b := pick(&d, d.any(count, 3), d.become(a, count), d.other(d.become(a, count), count), d.other(a, count))
		if !term.Good(a) || !term.Good(b) {
			t.Fatalf("P7.1: %s and %s", show(a), show(b))
		}
		holdRenamed(t, a, pick[int64](&d, 0, 1, 4, 1000, lastVar-3, lastVar))
		switch same, more, less := holdModel(t, a, b); {
		case same:
			alike++
		case more:
			ahead++
		case less:
			behind++
		default:
			apart++
		}
	}
	if alike < 500 || ahead < 1000 || behind < 200 || apart < 1000 {
		t.Errorf("of the pairs %d are alike, %d are more, %d less, %d apart", alike, ahead, behind, apart)
	}
}

// What is more than one that is more than a third is more than that, too.
func TestMoreOfManyInARow(t *testing.T) {
	d := dice(3)
	for range 1500 {
		const count = 4
		a := d.any(count, 5)
		b := d.become(a, count)
		c := d.become(b, count)
		renamed, _, _ := alias.From(c, 2)
		for _, p := range [][2]term.Term{{a, a}, {a, b}, {b, c}, {a, c}, {a, renamed}, {v(0), c}} {
			if !alias.More(p[0], p[1]) {
				t.Errorf("P13.1: More(%s, %s) is false", show(p[0]), show(p[1]))
			}
		}
		if alias.More(c, a) && !alias.Alike(a, b) {
			t.Errorf("P13.1: %s, %s and %s are in a ring, and not alike", show(a), show(b), show(c))
		}
	}
}
