package write_test

import (
	"strconv"
	"strings"
	"testing"

	"sizar/api"
	"sizar/lex"
	"sizar/op"
	"sizar/term"
)

// dice tells numbers that are the same each time.
type dice uint32

func (d *dice) roll(n int) int {
	*d = *d*1664525 + 1013904223
	return int(*d>>16) % n
}

// pick tells one of some.
func pick[T any](d *dice, l []T) T { return l[d.roll(len(l))] }

// find looks an operator up, of those between or of those ahead.
func find(ops op.Table, name string, between bool) (op.Op, bool) {
	for _, o := range ops.L {
		if o.Name == name && (len(o.Kind) == 3) == between {
			return o, true
		}
	}
	return op.Op{}, false
}

// side tells the greatest level of what may stand where an operator's kind has this letter.
func side(o op.Op, letter byte) int {
	if letter == 'y' {
		return o.Level
	}
	return o.Level - 1
}

// piece is a part of a text, written from within outwards, and what those around it must know of it.
type piece struct {
	text  string
	level int
	left  bool // is it one of a yfx between?
	lone  bool // does it stand in brackets beside an operator?
}

// at tells the piece's text where at most a level may stand.
func (p piece) at(most int) string {
	if p.level > most {
		return "(" + p.text + ")"
	}
	return p.text
}

// beside tells the piece's text beside an operator, where at most a level may stand.
func (p piece) beside(most int) string {
	if p.lone {
		return "(" + p.text + ")"
	}
	return p.at(most)
}

// second writes as the chapter says, too, but from within outwards.
type second struct {
	ops   op.Table
	bare  bool // without operators?
	names []int64
}

// variable tells the text of a variable.
func (w *second) variable(n int64) string {
	for i, known := range w.names {
		if known == n {
			return "_" + strconv.Itoa(i)
		}
	}
	w.names = append(w.names, n)
	return "_" + strconv.Itoa(len(w.names)-1)
}

// piece writes a term.
func (w *second) piece(x term.Term) piece {
	switch x.Kind {
	case 0:
		return piece{text: w.variable(x.N)}
	case 1:
		return piece{text: strconv.FormatInt(x.N, 10), lone: x.N < 0}
	}
	name := lex.Quote(x.Name)
	a, ahead := find(w.ops, x.Name, false)
	b, between := find(w.ops, x.Name, true)
	if len(x.Args) == 0 {
		return piece{text: name, level: max(a.Level, b.Level), lone: ahead || between}
	}
	args := make([]piece, len(x.Args))
	for i, a := range x.Args {
		args[i] = w.piece(a)
	}
	switch {
	case w.bare:
	case x.Name == "." && len(args) == 2:
		return piece{text: "[" + args[0].at(999) + w.behind(x.Args[1], args[1])}
	case x.Name == "{}" && len(args) == 1:
		return piece{text: "{" + args[0].at(1200) + "}"}
	case len(args) == 2 && between:
		return w.between(b, args[0], args[1])
	case len(args) == 1 && ahead && name == x.Name && (name != "-" || x.Args[0].Kind != 1):
		return piece{text: name + " " + args[0].beside(side(a, a.Kind[1])), level: a.Level}
	}
	var texts []string
	for _, p := range args {
		texts = append(texts, p.at(999))
	}
	return piece{text: name + "(" + strings.Join(texts, ",") + ")"}
}

// behind tells what stands behind an item: another one, a tail, or none.
func (w *second) behind(tail term.Term, p piece) string {
	switch {
	case tail.Name == "." && len(tail.Args) == 2:
		return "," + p.text[1:]
	case tail.Name == "[]" && len(tail.Args) == 0:
		return "]"
	}
	return "|" + p.at(999) + "]"
}

// between writes an operator between two.
func (w *second) between(o op.Op, x, y piece) piece {
	left, name := x.beside(side(o, o.Kind[0])), " "+lex.Quote(o.Name)+" "
	if o.Kind == "yfx" && x.level == o.Level && !x.left && !x.lone {
		left = "(" + x.text + ")"
	}
	if o.Name == "," {
		name = ","
	}
	return piece{text: left + name + y.beside(side(o, o.Kind[2])), level: o.Level, left: o.Kind == "yfx"}
}

// holdSecond holds what both answer of a term against the second writer, and what is read of that against the term; it tells whether there was room.
func holdSecond(t *testing.T, ops op.Table, x term.Term) bool {
	t.Helper()
	p := second{ops: ops}
	q := second{bare: true}
	text, plain := p.piece(x).at(1200), q.piece(x).text
	if len(plain) > api.MaxText || len(text) > api.MaxText {
		return false
	}
	hold(t, ops, x, text)
	holdPlain(t, x, plain)
	return !t.Failed()
}

// tables are some that differ much.
func tables(t *testing.T) []op.Table {
	t.Helper()
	return []op.Table{op.Plain(), mixed(t),
		table(t, "-", "xfx", "400", "+", "fx", "200", "=", "yfx", "700", "x", "xfy", "1200", "p", "fy", "1200", ",", "xfy", "1000"),
		table(t, "-", "fy", "300", "-", "yfx", "300", "+", "fx", "300", "+", "xfy", "300", "=", "xfx", "300", "x", "xfy", "299", "p", "fy", "299"),
		table(t, "'", "xfx", "400", "(", "xfx", "400", ")", "fy", "400", "]", "xfy", "400", "=", "fy", "400", "mod", "fx", "1", "x", "xfx", "1", "y", "yfx", "1"),
		table(t, "=", "xfx", "999", "x", "yfx", "999", "y", "xfy", "999", "p", "fy", "999", "q", "fx", "1000", "-", "yfx", "1000", ",", "xfy", "1000", "-", "fy", "998"),
		table(t, "!", "fy", "700", "!", "yfx", "700", ";", "fx", "1200", ";", "xfy", "1", ".+", "fy", "20", "*.", "yfx", "20", "~", "yfx", "1200"),
	}
}

// random makes a term of the operators of a table and other names.
func random(d *dice, ops op.Table, deep int) term.Term {
	if deep == 1 || d.roll(6) == 0 {
		switch d.roll(6) {
		case 0, 1:
			return term.Var(int64(d.roll(4)))
		case 2:
			return term.Int(int64(d.roll(9) - 3))
		case 3:
			return term.Atom(pick(d, ops.L).Name)
		}
		return term.Atom(pick(d, []string{"a", "b", "[]", "{}", "A b", "", "!", "~", "."}))
	}
	name, many := "", 1+d.roll(3)
	switch d.roll(8) {
	case 0:
		name, many = ".", 2
	case 1:
		name, many = "{}", 1
	case 2:
		name = pick(d, []string{"f", "F", "[]", ".", ",", pick(d, ops.L).Name})
	default:
		o := pick(d, ops.L)
		name, many = o.Name, len(o.Kind)-1
	}
	args := make([]term.Term, many)
	for i := range args {
		args[i] = random(d, ops, deep-1)
	}
	return term.Comp(name, args...)
}

func TestManyTermsAgainstASecondWriter(t *testing.T) {
	for k, ops := range tables(t) {
		d, had := dice(k), 0
		for range 8000 {
			if holdSecond(t, ops, random(&d, ops, 1+d.roll(6))) {
				had++
			}
			if t.Failed() {
				t.Fatalf("by table %d", k)
			}
		}
		if had < 7000 {
			t.Errorf("there was room for only %d of the terms by table %d", had, k)
		}
	}
}

// each makes all terms of names, with none, one and two of the terms that are there.
func each(atoms []term.Term, ones, twos []string, there []term.Term) []term.Term {
	all := append([]term.Term{}, atoms...)
	for _, name := range ones {
		for _, x := range there {
			all = append(all, term.Comp(name, x))
		}
	}
	for _, name := range twos {
		for _, x := range there {
			for _, y := range there {
				all = append(all, term.Comp(name, x, y))
			}
		}
	}
	return all
}

// holdEach holds all small terms of the names.
func holdEach(t *testing.T, ops op.Table, atoms []term.Term, ones, twos []string) {
	t.Helper()
	all := each(atoms, ones, twos, each(atoms, ones, twos, atoms))
	for _, x := range all {
		if !holdSecond(t, ops, x) {
			t.Fatalf("one of %d small terms", len(all))
		}
	}
}

func TestEachSmallTerm(t *testing.T) {
	a, below := term.Atom("a"), term.Int(-1)
	holdEach(t, mixed(t), []term.Term{a, term.Atom("py")}, []string{"py", "px", "both"}, []string{"xx", "xy", "yx", "also", "both"})
	holdEach(t, mixed(t), []term.Term{a, below, term.Atom("twin")}, []string{"twin", "first", "a b", "."}, []string{"less", "more", "twin"})
	holdEach(t, mixed(t), []term.Term{a, term.Atom("top")}, []string{"top", "{}"}, []string{"top", "one", ",", ".", "c d", "("})
	holdEach(t, op.Plain(), []term.Term{term.Int(1), below, term.Atom("-")}, []string{"-", "\\+", "f"}, []string{"-", "^", ","})
	holdEach(t, op.Plain(), []term.Term{term.Var(3), term.Atom("[]"), term.Atom(",")}, []string{"\\", "{}", ":-"}, []string{".", ":-", "="})
}
