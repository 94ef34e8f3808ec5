package body_test

import (
	"slices"
	"testing"

	"sizar/api"
	"sizar/body"
	"sizar/term"
)

// back makes the body that the chapter asks for of goals that there may be.
func back(l []body.Goal) term.Term {
	if len(l) == 0 {
		return at("true")
	}
	if len(l) > 1 {
		return both(back(l[:1]), back(l[1:]))
	}
	switch g := l[0]; g.Kind {
	case 2:
		return at("!")
	case 3:
		return either(back(g.L[0]), back(g.L[1]))
	case 4:
		return either(then(back(g.L[0]), back(g.L[1])), back(g.L[2]))
	case 5:
		return not(back(g.L[0]))
	default:
		return g.T
	}
}

// of tells whether a term is a name with so many Args.
func of(x term.Term, name string, many int) bool {
	return x.Kind == 2 && x.Name == name && len(x.Args) == many
}

// makes tells whether a body makes a row: it looks for where the row may be cut in two.
func makes(x term.Term, l []body.Goal) bool {
	switch {
	case of(x, ",", 2):
		for i := range len(l) + 1 {
			if makes(x.Args[0], l[:i]) && makes(x.Args[1], l[i:]) {
				return true
			}
		}
		return false
	case of(x, "true", 0):
		return len(l) == 0
	case len(l) != 1:
		return false
	}
	g := l[0]
	if g.Kind == 1 {
		return len(g.L) == 0 && (equal(g.T, x) && x.Kind == 2 && !control(x) || x.Kind == 0 && equal(g.T, call(x)))
	}
	if !equal(g.T, term.Term{}) {
		return false
	}
	switch len(g.L) {
	case 0:
		return g.Kind == 2 && of(x, "!", 0)
	case 1:
		return g.Kind == 5 && of(x, "\\+", 1) && makes(x.Args[0], g.L[0])
	case 2:
		return g.Kind == 3 && of(x, ";", 2) && !of(x.Args[0], "->", 2) && makes(x.Args[0], g.L[0]) && makes(x.Args[1], g.L[1])
	case 3:
		if of(x, "->", 2) {
			x = either(x, at("fail"))
		}
		return g.Kind == 4 && of(x, ";", 2) && of(x.Args[0], "->", 2) && makes(x.Args[0].Args[0], g.L[0]) && makes(x.Args[0].Args[1], g.L[1]) && makes(x.Args[1], g.L[2])
	}
	return false
}

// control tells whether a term is one that goals are made of.
func control(x term.Term) bool {
	return of(x, ",", 2) || of(x, ";", 2) || of(x, "->", 2) || of(x, "\\+", 1) || of(x, "!", 0) || of(x, "true", 0)
}

// numbered tells whether a number stands where a goal is asked for.
func numbered(x term.Term) bool {
	return x.Kind == 1 || control(x) && slices.ContainsFunc(x.Args, numbered)
}

// stops tells whether a body has a cut that cuts the clause.
func stops(x term.Term) bool {
	switch {
	case of(x, "!", 0):
		return true
	case of(x, "->", 2):
		return stops(x.Args[1])
	case of(x, ",", 2), of(x, ";", 2):
		return stops(x.Args[0]) || stops(x.Args[1])
	}
	return false
}

// counted counts goals by a row of what is still to be counted.
func counted(l []body.Goal) int {
	todo := slices.Clone(l)
	for i := 0; i < len(todo); i++ {
		for _, inner := range todo[i].L {
			todo = append(todo, inner...)
		}
	}
	return len(todo)
}

// least makes a body of goals that there may be: none of the same goals is smaller, and none less deep.
func least(l []body.Goal) term.Term {
	if len(l) == 0 {
		return at("true")
	}
	// leasts has, of as many as there are from one place on, the least term.
	leasts := [][]term.Term{nil, nil}
	for _, g := range l {
		leasts[1] = append(leasts[1], leastOf(g))
	}
	for many := 2; many <= len(l); many++ {
		leasts = append(leasts, nil)
		for from := range len(l) - many + 1 {
			var ways []term.Term
			for left := 1; left < many; left++ {
				ways = append(ways, both(leasts[left][from], leasts[many-left][from+left]))
			}
			leasts[many] = append(leasts[many], slices.MinFunc(ways, func(x, y term.Term) int { return deep(x) - deep(y) }))
		}
	}
	return leasts[len(l)][0]
}

// leastOf makes a least body of one goal.
func leastOf(g body.Goal) term.Term {
	switch {
	case g.Kind == 1 && of(g.T, "call", 1) && g.T.Args[0].Kind == 0:
		return g.T.Args[0]
	case g.Kind == 1 || g.Kind == 2:
		return back(row(g))
	case g.Kind == 5:
		return not(least(g.L[0]))
	case g.Kind == 4 && equalRows(g.L[2], fails):
		return then(least(g.L[0]), least(g.L[1]))
	case g.Kind == 4:
		return either(then(least(g.L[0]), least(g.L[1])), least(g.L[2]))
	}
	left := least(g.L[0])
	if of(left, "->", 2) {
		left = both(at("true"), left)
	}
	return either(left, least(g.L[1]))
}

// deep tells how deep a term is, without a limit.
func deep(x term.Term) int {
	d := 0
	for _, y := range x.Args {
		d = max(d, deep(y))
	}
	return 1 + d
}

// small are all terms of few leaves that are at most so deep.
func small(depth int, leaves ...term.Term) []term.Term {
	if depth == 1 {
		return leaves
	}
	l := slices.Clone(leaves)
	some := small(depth-1, leaves...)
	for _, x := range some {
		l = append(l, not(x))
		for _, y := range some {
			l = append(l, both(x, y), either(x, y), then(x, y))
		}
	}
	return l
}

// bound is how great, and how deep, bodies of a row are at least.
type bound struct {
	l           []body.Goal
	size, depth int
}

// holdBody holds what is told of a body, and of the goals that it makes, against the models; and tells these.
func holdBody(t *testing.T, x term.Term) ([]body.Goal, bool) {
	t.Helper()
	if numbered(x) {
		holdRefused(t, x, api.ETYPE)
		holdNoClause(t, rule(a, x), api.ETYPE)
		return nil, false
	}
	l, e := body.Of(x)
	if e != api.OK || !makes(x, l) {
		t.Fatalf("P14.1: Of(%s): %s, %d", show(x), show(l), e)
	}
	holdMade(t, l)
	holdCount(t, l, counted(l))
	holdCuts(t, l, stops(x))
	if rest := rule(f(v(9)), x); term.Good(rest) {
		holdClause(t, rest, f(v(9)), x)
	}
	return l, true
}

// Beneath so many nots, and beside as great a call, a row has a body just if its least body has room there.
func holdBound(t *testing.T, p bound) {
	t.Helper()
	holdMade(t, within(p.l, api.MaxDepth-p.depth))
	holdNoBack(t, within(p.l, api.MaxDepth-p.depth+1))
	if len(p.l) == 0 {
		return
	}
	room := api.MaxCells - p.size - 1
	holdMade(t, append(slices.Clone(p.l), does(great(room))))
	holdNoBack(t, append(slices.Clone(p.l), does(great(room+1))))
	if x := least(p.l); term.Size(x) != p.size || term.Depth(x) != p.depth {
		t.Errorf("the least body of %s is of %d, %d deep, not %s", show(p.l), p.size, p.depth, show(x))
	}
}

func TestAllSmallBodies(t *testing.T) {
	bounds := map[string]bound{}
	var keys []string
	for _, x := range small(3, a, v(0), n(3), call(v(0)), at("!"), at("true"), at("fail")) {
		l, ok := holdBody(t, x)
		if !ok {
			continue
		}
		key := show(back(l))
		p, ok := bounds[key]
		if !ok {
			keys = append(keys, key)
			p = bound{l, term.Size(x), term.Depth(x)}
		}
		bounds[key] = bound{l, min(p.size, term.Size(x)), min(p.depth, term.Depth(x))}
	}
	for i, key := range keys {
		if p := bounds[key]; i%9 == 0 || p.depth < 3 {
			holdBound(t, p)
		}
	}
}

// dice tells numbers that are the same each time.
type dice uint32

func (d *dice) roll(most int) int {
	*d = *d*1664525 + 1013904223
	return int(*d>>16) % most
}

// pick tells one of some.
func pick[T any](d *dice, some ...T) T { return some[d.roll(len(some))] }

// row makes a row of goals with rows within, at most so deep, whose calls are about so deep.
func (d *dice) row(deep, about int) []body.Goal {
	var l []body.Goal
	for range d.roll(pick(d, 3, 5, 8)) {
		l = append(l, d.goal(deep, about))
	}
	return l
}

func (d *dice) goal(deep, about int) body.Goal {
	next := func() []body.Goal { return d.row(deep-1, max(about-d.roll(3), 2)) }
	kind := d.roll(7)
	if deep > 1 {
		kind = d.roll(14)
	}
	switch kind {
	case 0:
		return cut()
	case 1:
		return does(call(v(int64(d.roll(3)))))
	case 2:
		return does(pick(d, a, at("fail"), f(v(0))))
	case 3, 4:
		return does(chain(2+d.roll(about-1), pick(d, a, v(0), n(3))))
	case 5, 6:
		return does(chain(about, a))
	case 7, 8:
		return nots(next())
	case 9, 10:
		return or(next(), next())
	case 11:
		return cond(next(), next(), next())
	}
	return cond(next(), next(), fails)
}

// Many rows, of which some have no body, some have one that is not Back's, and some have Back's.
func TestManyRows(t *testing.T) {
	d := dice(14)
	var none, other, own int
	for range 3000 {
		l := d.row(pick(&d, 1, 3, 5), pick(&d, 2, 2, 3, 20, 50, 61))
		// Most are put within as many nots as there is room for, or a few less, or one more.
		l = within(l, max(api.MaxDepth-deep(least(l))+1-d.roll(5), 0))
		x := least(l)
		if !term.Good(x) {
			holdNoBack(t, l)
			none++
			continue
		}
		if got, e := body.Of(x); e != api.OK || !equalRows(got, l) || !makes(x, l) {
			t.Fatalf("P14.1: Of(%s): %s, %d; not %s", show(x), show(got), e, show(l))
		}
		holdBody(t, x)
		if term.Good(back(l)) {
			own++
		} else {
			other++
		}
	}
	if none < 300 || other < 300 || own < 300 {
		t.Errorf("%d rows have no body, %d another than Back's, %d Back's", none, other, own)
	}
}
