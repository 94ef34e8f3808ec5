package read_test

import (
	"slices"
	"strconv"
	"strings"
	"testing"

	"sizar/api"
	"sizar/lex"
	"sizar/op"
	"sizar/read"
	"sizar/term"
)

// dice tells numbers that are the same each time.
type dice uint32

func (d *dice) roll(n int) int {
	*d = *d*1664525 + 1013904223
	return int(*d>>16) % n
}

// pick tells one of some.
func pick[T any](d *dice, l []T) T { return l[d.roll(len(l))] }

// find looks an operator up, of those between or of those ahead.
func find(ops op.Table, name string, between bool) (op.Op, bool) {
	for _, o := range ops.L {
		if o.Name == name && (len(o.Kind) == 3) == between {
			return o, true
		}
	}
	return op.Op{}, false
}

// side tells the greatest level of what may stand where an operator's kind has this letter.
func side(o op.Op, letter byte) int {
	if letter == 'y' {
		return o.Level
	}
	return o.Level - 1
}

// begun is what was begun, and is not ended yet.
type begun struct {
	open  string      // the mark that opened it, none of an operator
	name  string      // of the operator, or ahead of the mark
	level int         // of the operator
	l     []term.Term // what it has so far
	tail  bool        // is it a list's tail that comes?
	most  int         // the greatest level of what may stand where it stands
}

// piled reads as the chapter does, but in one loop, by a pile of what was begun.
type piled struct {
	ops   op.Table
	l     []lex.Token
	pile  []begun
	have  bool // is there a term to go on with?
	x     term.Term
	level int
	most  int // the greatest level of what may stand here
	names []string
}

// one reads a term and its end, and tells how many tokens it has, or 0.
func (p *piled) one() (term.Term, int) {
	p.pile, p.have, p.most, p.names = nil, false, 1200, nil
	for i := 0; i < len(p.l); {
		many := 0
		if p.have {
			many = p.behind(p.l[i])
		} else {
			many = p.ahead(p.l[i:])
		}
		if many == 0 {
			return term.Term{}, 0
		}
		i += many
		if p.l[i-1].Kind == 6 {
			return p.x, i
		}
	}
	return term.Term{}, 0
}

// holds takes a term, and tells of how many tokens it was.
func (p *piled) holds(x term.Term, level, many int) int {
	p.have, p.x, p.level = true, x, level
	return many
}

// begins puts what is begun on the pile, and tells of how many tokens it was.
func (p *piled) begins(b begun, most, many int) int {
	b.most = p.most
	p.pile = append(p.pile, b)
	p.have, p.most = false, most
	return many
}

// ahead goes on where a term is to begin.
func (p *piled) ahead(l []lex.Token) int {
	one, next := l[0], lex.Token{}
	if len(l) > 1 {
		next = l[1]
	}
	switch {
	case one.Kind == 4:
		return p.holds(term.Int(one.N), 0, 1)
	case one.Kind == 3:
		return p.holds(term.Var(p.number(one.Text)), 0, 1)
	case one.Kind == 5 && (one.Text == "(" || one.Text == "{"):
		return p.begins(begun{open: one.Text}, 1200, 1)
	case one.Kind == 5 && one.Text == "[":
		return p.begins(begun{open: one.Text}, 999, 1)
	case one.Kind > 2:
		return 0
	case one.Kind == 1 && one.Text == "-" && next.Kind == 4 && next.At == one.At+1:
		return p.holds(term.Int(-next.N), 0, 2)
	case one.Open:
		return p.begins(begun{open: "f(", name: one.Text}, 999, 2)
	case one.Kind == 2:
		return p.holds(term.Atom(one.Text), 0, 1)
	}
	o, is := find(p.ops, one.Text, false)
	if is && o.Level <= p.most && p.mayBegin(next) {
		return p.begins(begun{name: one.Text, level: o.Level}, side(o, o.Kind[1]), 1)
	}
	b, _ := find(p.ops, one.Text, true)
	if max(o.Level, b.Level) > p.most {
		return 0
	}
	return p.holds(term.Atom(one.Text), max(o.Level, b.Level), 1)
}

// mayBegin tells whether a token may begin a term.
func (p *piled) mayBegin(one lex.Token) bool {
	if one.Kind == 0 || one.Kind == 6 || one.Kind == 5 && strings.Contains(")]}|,", one.Text) {
		return false
	}
	_, between := find(p.ops, one.Text, true)
	_, ahead := find(p.ops, one.Text, false)
	return one.Kind > 2 || one.Open || ahead || !between
}

// number tells the number of a variable.
func (p *piled) number(text string) int64 {
	at := slices.Index(p.names, text)
	if at < 0 || text == "_" {
		at = len(p.names)
		p.names = append(p.names, text)
	}
	return int64(at)
}

// behind goes on where a term has ended.
func (p *piled) behind(one lex.Token) int {
	o, is := find(p.ops, one.Text, true)
	is = is && (one.Kind < 3 || one.Kind == 5 && one.Text == ",")
	for {
		if is && o.Level <= p.most && p.level <= side(o, o.Kind[0]) {
			return p.begins(begun{name: o.Name, level: o.Level, l: []term.Term{p.x}}, side(o, o.Kind[2]), 1)
		}
		if len(p.pile) == 0 {
			break
		}
		top := p.pile[len(p.pile)-1]
		if top.open != "" {
			return p.within(top, one)
		}
		p.pile = p.pile[:len(p.pile)-1]
		p.x, p.level, p.most = term.Comp(top.name, append(top.l, p.x)...), top.level, top.most
	}
	if one.Kind == 6 {
		return 1
	}
	return 0
}

// within goes on where an item, an argument or what is within brackets has ended.
func (p *piled) within(top begun, one lex.Token) int {
	if one.Kind != 5 {
		return 0
	}
	l := append(top.l, p.x)
	p.pile = p.pile[:len(p.pile)-1]
	p.most = top.most
	switch top.open + one.Text {
	case "()":
		return p.holds(p.x, 0, 1)
	case "{}":
		return p.holds(term.Comp("{}", p.x), 0, 1)
	case "f()":
		return p.holds(term.Comp(top.name, l...), 0, 1)
	case "f(,":
		return p.begins(begun{open: top.open, name: top.name, l: l}, 999, 1)
	case "[]":
		if top.tail {
			return p.holds(term.List(l[:len(l)-1], p.x), 0, 1)
		}
		return p.holds(term.List(l, term.Atom("[]")), 0, 1)
	case "[,", "[|":
		if top.tail {
			return 0
		}
		return p.begins(begun{open: top.open, l: l, tail: one.Text == "|"}, 999, 1)
	}
	return 0
}

// holdPiled holds what Term and All answer against what the pile does, and tells whether Term answers one.
func holdPiled(t *testing.T, ops op.Table, s string) bool {
	t.Helper()
	var all []string
	var names []read.Named
	l, _, e := lex.Cut(s)
	for p := (piled{ops: ops, l: l}); e == api.OK && len(p.l) > 0; {
		x, many := p.one()
		p.l = p.l[many:]
		switch {
		case many == 0:
			e = api.EFORM
		case !term.Good(x):
			e = api.EOVER
		}
		all = append(all, show(x))
		names = named(p.names)
	}
	got, wrong := read.All(ops, s)
	if wrong != e || e != api.OK && len(got) != 0 || e == api.OK && !slices.Equal(showAll(got), all) {
		t.Fatalf("P8.1: All(%q): %v, %d; not %v, %d", s, showAll(got), wrong, all, e)
	}
	x, words, wrong := read.Term(ops, s)
	if e != api.OK || len(all) != 1 {
		// More than one, or none, are not of one term's form, whatever else is wrong with them.
		if wrong == api.OK || e == api.OK && wrong != api.EFORM || x.Kind != 0 || len(words) != 0 {
			t.Fatalf("P8.1: Term(%q): %s, %v, %d", s, show(x), words, wrong)
		}
		return false
	}
	if wrong != api.OK || show(x) != all[0] || !slices.Equal(words, names) {
		t.Fatalf("P8.1: Term(%q): %s, %v, %d; not %s, %v", s, show(x), words, wrong, all[0], names)
	}
	return true
}

// named tells the names of variables, each with its place, but for those of _.
func named(l []string) []read.Named {
	var out []read.Named
	for i, name := range l {
		if name != "_" {
			out = append(out, read.Named{Name: name, N: int64(i)})
		}
	}
	return out
}

// tables are some that differ much.
func tables(t *testing.T) []op.Table {
	t.Helper()
	return []op.Table{op.Plain(), mixed(t), {},
		table(t, "-", "xfx", "400", "+", "fx", "200", "=", "yfx", "700", "x", "xfy", "1200", "p", "fy", "1200", ",", "xfy", "1000"),
		table(t, "-", "fy", "300", "-", "yfx", "300", "+", "fx", "300", "+", "xfy", "300", "=", "xfx", "300", "x", "xfy", "299", "p", "fy", "299"),
		table(t, "'", "xfx", "400", "(", "xfx", "400", ")", "fy", "400", "]", "xfy", "400", "=", "fy", "400", "mod", "fx", "1", "x", "xfx", "1", "y", "yfx", "1"),
	}
}

func TestManyTextsAgainstAPile(t *testing.T) {
	some := []string{
		"a", "f(", "(", ")", "X", "Y", "_", "1", "-", "-", "+", "=", ",", "'a b'", "[", "]", "|", "{", "}", "\\+", ":-", "^", "*", "mod", ";", "!", "x", "y", "z", "p", "q", "both", "low", "first", "one", "top",
		"[]", "{}", "'-'", "'='", "','", "'x'", "'both'", "-(", "=(", "x(", "'f'(", "'('", "')'", ".", "a.", ". ", "is", "X=", "-1", "- 1", ",b", "(a)", "[a]", "f(a)",
	}
	between := []string{" ", " ", " ", " ", " ", "", "\n", "% c\n"}
	for k, ops := range tables(t) {
		d, right := dice(k), 0
		for i := range 30000 {
			var text strings.Builder
			for range 1 + d.roll(2+i%9) {
				text.WriteString(pick(&d, some) + pick(&d, between))
			}
			text.WriteString(".")
			if holdPiled(t, ops, text.String()) {
				right++
			}
		}
		if right < 2000 {
			t.Errorf("only %d of the texts by table %d are right", right, k)
		}
	}
}

// writer writes terms with no brackets but those that must be.
type writer struct {
	ops  op.Table
	d    dice
	need int // how many pairs that must be were asked for
	drop int // which of them is not written
}

// must writes a text in brackets, but for the pair that is dropped.
func (w *writer) must(s string) string {
	w.need++
	if w.need-1 == w.drop {
		return s
	}
	return "(" + s + ")"
}

// write writes a term where at most a level may stand; side by side with an operator, or not.
func (w *writer) write(x term.Term, most int, beside bool) string {
	switch {
	case x.Kind == 0:
		return "V" + strconv.FormatInt(x.N, 10)
	case x.Kind == 1 && x.N < 0 && beside:
		return "(" + strconv.FormatInt(x.N, 10) + ")"
	case x.Kind == 1:
		return strconv.FormatInt(x.N, 10)
	case len(x.Args) == 0:
		return w.atom(x.Name, most, beside)
	}
	o, is := find(w.ops, x.Name, len(x.Args) == 2)
	switch {
	case x.Name == "." && len(x.Args) == 2 && w.d.roll(4) > 0:
		return w.list(x)
	case x.Name == "{}" && len(x.Args) == 1 && w.d.roll(4) > 0:
		return "{" + w.write(x.Args[0], 1200, false) + "}"
	case !is || len(x.Args) > 2 || len(x.Args) == 1 && !lex.Plain(x.Name) || w.d.roll(8) == 0:
		return lex.Quote(x.Name) + "(" + w.items(x.Args) + ")"
	}
	s := w.operator(o, x.Args)
	if o.Level > most {
		s = w.must(s)
	}
	return s
}

// operator writes one of an operator.
func (w *writer) operator(o op.Op, args []term.Term) string {
	if len(args) == 1 {
		return lex.Quote(o.Name) + " " + w.write(args[0], side(o, o.Kind[1]), true)
	}
	left := side(o, o.Kind[0])
	// What ends with what may be as great as it is would take this one in.
	l, is := find(w.ops, args[0].Name, len(args[0].Args) == 2)
	if is && l.Level == o.Level && l.Kind[len(l.Kind)-1] == 'y' {
		left = o.Level - 1
	}
	name := lex.Quote(o.Name)
	if o.Name == "," && w.d.roll(2) == 0 {
		name = ","
	}
	return w.write(args[0], left, true) + " " + name + " " + w.write(args[1], side(o, o.Kind[2]), true)
}

// atom writes an atom.
func (w *writer) atom(name string, most int, beside bool) string {
	a, ahead := find(w.ops, name, false)
	b, between := find(w.ops, name, true)
	if !ahead && !between {
		return lex.Quote(name)
	}
	if beside {
		return "(" + lex.Quote(name) + ")"
	}
	if lex.Plain(name) && max(a.Level, b.Level) > most {
		return w.must(name)
	}
	return lex.Quote(name)
}

// items writes items with commas between.
func (w *writer) items(l []term.Term) string {
	out := make([]string, len(l))
	for i, x := range l {
		out[i] = w.write(x, 999, false)
	}
	return strings.Join(out, ",")
}

// list writes a list.
func (w *writer) list(x term.Term) string {
	l, tail := term.Items(x)
	s := "[" + w.items(l)
	if tail.Name != "[]" || len(tail.Args) > 0 || w.d.roll(4) == 0 {
		s += "|" + w.write(tail, 999, false)
	}
	return s + "]"
}

// random makes a term of the operators of a table and other names.
func random(d *dice, ops op.Table, deep int) term.Term {
	if deep == 1 || d.roll(6) == 0 {
		switch d.roll(6) {
		case 0, 1:
			return term.Var(int64(d.roll(4)))
		case 2:
			return term.Int(int64(d.roll(9) - 3))
		case 3:
			return term.Atom(pick(d, ops.L).Name)
		}
		return term.Atom(pick(d, []string{"a", "b", "[]", "{}", "A b", "", "!", "~", "."}))
	}
	name, many := "", 1+d.roll(3)
	switch d.roll(8) {
	case 0:
		name, many = ".", 2
	case 1:
		name, many = "{}", 1
	case 2:
		name = pick(d, []string{"f", "F", "[]", ".", ","})
	default:
		o := pick(d, ops.L)
		name, many = o.Name, len(o.Kind)-1
	}
	args := make([]term.Term, many)
	for i := range args {
		args[i] = random(d, ops, deep-1)
	}
	return term.Comp(name, args...)
}

// renamed numbers variables by a list: each by where it is there.
func renamed(x term.Term, l []int64) term.Term {
	if x.Kind == 0 {
		return term.Var(int64(slices.Index(l, x.N)))
	}
	args := make([]term.Term, len(x.Args))
	for i, a := range x.Args {
		args[i] = renamed(a, l)
	}
	x.Args = args
	return x
}

func TestManyTermsAreReadAsTheyWere(t *testing.T) {
	for k, ops := range tables(t) {
		if len(ops.L) == 0 {
			continue
		}
		d, needed := dice(k), 0
		for range 6000 {
			x := random(&d, ops, 1+d.roll(5))
			w := writer{ops: ops, d: d, drop: -1}
			s := w.write(x, 1200, false) + " ."
			if len(s) > api.MaxText {
				continue
			}
			vars := term.Vars(x)
			want := renamed(x, vars)
			got, names, e := read.Term(ops, s)
			if e != api.OK || !term.Same(got, want) || len(names) != len(vars) {
				t.Fatalf("P8.1: Term(%q): %s, %v, %d; not %s", s, show(got), names, e, show(want))
			}
			for i, v := range names {
				if v.N != int64(i) || v.Name != "V"+strconv.FormatInt(vars[i], 10) {
					t.Fatalf("P8.1: Term(%q): %v; not of %v", s, names, vars)
				}
			}
			for pair := range w.need {
				needed++
				less := writer{ops: ops, d: d, drop: pair}
				s := less.write(x, 1200, false) + " ."
				if got, _, e := read.Term(ops, s); e == api.OK && term.Same(got, want) {
					t.Fatalf("P8.1: Term(%q): %s, as with all brackets", s, show(got))
				}
			}
		}
		if needed < 1000 {
			t.Errorf("only %d brackets by table %d must be", needed, k)
		}
	}
}

func TestManyTermsOneBehindAnother(t *testing.T) {
	d, ops := dice(3), op.Plain()
	for range 3000 {
		var text strings.Builder
		var want []string
		for range d.roll(5) {
			x := random(&d, ops, 1+d.roll(3))
			w := writer{ops: ops, d: d, drop: -1}
			text.WriteString(w.write(x, 1200, false) + pick(&d, []string{" .\n", " . ", "\n. % a b.\n"}))
			want = append(want, show(renamed(x, term.Vars(x))))
		}
		if text.Len() <= api.MaxText {
			holdAll(t, ops, text.String(), want...)
		}
	}
}

// overwrite writes over the fields of terms, spare room too, and so all the way in.
func overwrite(l []term.Term) {
	l = l[:cap(l)]
	for i := range l {
		within := l[i].Args
		l[i] = term.Term{Kind: 9, N: 9, Name: "over"}
		overwrite(within)
	}
}

func TestAnswersAreNewMemory(t *testing.T) {
	ops := op.Plain()
	held := slices.Clone(ops.L)
	s := "[f(X,Y,_)|-a] = {X+Y*2,'b c'}.\n"
	one, names, _ := read.Term(ops, s)
	other, held2, _ := read.Term(ops, s)
	want := show(other)
	for i := range names[:cap(names)] {
		names[:cap(names)][i] = read.Named{Name: "over", N: 9}
	}
	overwrite(one.Args)
	again, _, _ := read.Term(ops, s)
	if show(other) != want || show(again) != want || !slices.Equal(held2, []read.Named{{Name: "X", N: 0}, {Name: "Y", N: 1}}) {
		t.Errorf("R4: Term(%q): %s, %v, then %s", s, show(other), held2, show(again))
	}
	l, _ := read.All(ops, s+s+s)
	overwrite(l[1].Args)
	for i := range l[len(l):cap(l)] {
		l[len(l):cap(l)][i] = term.Atom("over")
	}
	if show(l[0]) != want || show(l[2]) != want {
		t.Errorf("R4: All: %s, %s", show(l[0]), show(l[2]))
	}
	// Each list within an answer has its room for itself, spare room too.
	l, _ = read.All(ops, "f(g(a,b,c),h(a,b,c),[a,b|c],a+b+c,- - a).")
	for i := range l[0].Args {
		args := l[0].Args[i].Args
		args = args[:cap(args)]
		args[0].Name = "k" + strconv.Itoa(i)
		for k := len(l[0].Args[i].Args); k < len(args); k++ {
			args[k] = term.Atom("over")
		}
	}
	if got := show(l[0]); got != "f(g(k0 b c) h(k1 b c) .(k2 .(b c)) +(k3(a b) c) -(k4(a)))" {
		t.Errorf("R4: All: %s", got)
	}
	if !slices.Equal(ops.L, held) {
		t.Errorf("R4: the table: %v", ops)
	}
}
