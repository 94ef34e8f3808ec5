package body_test

import (
	"fmt"
	"math"
	"slices"
	"strings"
	"testing"

	"sizar/api"
	"sizar/body"
	"sizar/term"
)

const lastVar = math.MaxInt32

// v, n, at, and the names: terms.
func v(number int64) term.Term { return term.Var(number) }

func n(number int64) term.Term { return term.Int(number) }

func at(name string) term.Term { return term.Atom(name) }

func f(args ...term.Term) term.Term { return term.Comp("f", args...) }

func both(a, b term.Term) term.Term { return term.Comp(",", a, b) }

func either(a, b term.Term) term.Term { return term.Comp(";", a, b) }

func then(a, b term.Term) term.Term { return term.Comp("->", a, b) }

func not(a term.Term) term.Term { return term.Comp("\\+", a) }

func rule(head, rest term.Term) term.Term { return term.Comp(":-", head, rest) }

func call(a term.Term) term.Term { return term.Comp("call", a) }

// row and the others: goals.
func row(l ...body.Goal) []body.Goal { return l }

func does(t term.Term) body.Goal { return body.Goal{Kind: 1, T: t} }

func cut() body.Goal { return body.Goal{Kind: 2} }

func or(l ...[]body.Goal) body.Goal { return body.Goal{Kind: 3, L: l} }

func cond(l ...[]body.Goal) body.Goal { return body.Goal{Kind: 4, L: l} }

func nots(l ...[]body.Goal) body.Goal { return body.Goal{Kind: 5, L: l} }

// a, b, c: atoms; doA, doB, doC: rows that call them; fails: one that calls fail.
var (
	a, b, c       = at("a"), at("b"), at("c")
	doA, doB, doC = row(does(a)), row(does(b)), row(does(c))
	fails         = row(does(at("fail")))
)

// chain makes a term so deep, with one at its end.
func chain(deep int, last term.Term) term.Term {
	for range deep - 1 {
		last = f(last)
	}
	return last
}

// great makes a term of so many, not deeper than 6.
func great(count int) term.Term {
	if count == 1 {
		return n(7)
	}
	rest := count - 1
	args := make([]term.Term, min(rest, api.MaxArity))
	for i := range args {
		share := (rest + len(args) - 1 - i) / (len(args) - i)
		rest -= share
		args[i] = great(share)
	}
	return f(args...)
}

// bad are terms that may not be.
func bad() []term.Term {
	endless := []term.Term{a, a}
	endless[1] = term.Term{Kind: 2, Name: ",", Args: endless}
	twice := a
	for range 70 {
		twice = both(twice, twice)
	}
	l := []term.Term{
		{Kind: -1}, {Kind: 3}, {Kind: 3, Name: "a"}, {Name: "a"}, {Args: []term.Term{a}}, v(-1), v(1 << 31), v(math.MinInt64), {Kind: 1, Name: "!"}, {Kind: 1, Args: []term.Term{a}}, {Kind: 2, N: 1, Name: "true"},
		at("\x00"), at("\xff"), at(strings.Repeat("a", api.MaxAtom+1)), term.Comp("\r", a), f(slices.Repeat([]term.Term{a}, api.MaxArity+1)...), chain(api.MaxDepth+1, a), great(api.MaxCells + 1), endless[1], twice,
	}
	for _, x := range slices.Clone(l) {
		l = append(l, f(x), both(a, x), both(x, a), both(n(3), x), either(x, a), then(a, x), not(x), rule(a, x), rule(x, a), rule(v(0), x), rule(n(3), x), rule(at("!"), x))
	}
	return l
}

// equal tells whether two terms are alike, nil and an empty list one.
func equal(x, y term.Term) bool {
	return x.Kind == y.Kind && x.N == y.N && x.Name == y.Name && slices.EqualFunc(x.Args, y.Args, equal)
}

// equalRows tells whether two rows are alike, nil and an empty list one.
func equalRows(k, l []body.Goal) bool {
	return slices.EqualFunc(k, l, func(g, h body.Goal) bool {
		return g.Kind == h.Kind && equal(g.T, h.T) && slices.EqualFunc(g.L, h.L, equalRows)
	})
}

// show tells what is told, a great one not to its end.
func show(x any) string {
	text := fmt.Sprintf("%+v", x)
	return text[:min(len(text), 300)]
}

// copied makes a row anew that shares no list with it.
func copied(l []body.Goal) []body.Goal {
	l = slices.Clone(l)
	for i := range l {
		l[i].L = slices.Clone(l[i].L)
		for k := range l[i].L {
			l[i].L[k] = copied(l[i].L[k])
		}
	}
	return l
}

// over writes over all lists of a row, spare room too.
func over(l []body.Goal) {
	for _, g := range l {
		for _, inner := range g.L {
			over(inner)
		}
		rows := g.L[:cap(g.L)]
		for i := range rows {
			rows[i] = []body.Goal{{Kind: 9}}
		}
	}
	l = l[:cap(l)]
	for i := range l {
		l[i] = body.Goal{Kind: 9, T: n(9)}
	}
}

// holdOf holds what Of answers of a body.
func holdOf(t *testing.T, x term.Term, want ...body.Goal) {
	t.Helper()
	got, e := body.Of(x)
	if e != api.OK || !equalRows(got, want) {
		t.Errorf("P14.1: Of(%s): %s, %d; not %s", show(x), show(got), e, show(want))
	}
}

// holdRefused holds what Of answers where it tells an error.
func holdRefused(t *testing.T, x term.Term, err api.Errno) {
	t.Helper()
	if got, e := body.Of(x); e != err || len(got) != 0 {
		t.Errorf("P14.1, R2: Of(%s): %s, %d; not %d", show(x), show(got), e, err)
	}
}

// holdClause holds what Clause answers of one that may be.
func holdClause(t *testing.T, x, head, rest term.Term) {
	t.Helper()
	h, r, e := body.Clause(x)
	if e != api.OK || !equal(h, head) || !equal(r, rest) {
		t.Errorf("P14.1: Clause(%s): %s, %s, %d", show(x), show(h), show(r), e)
	}
}

// holdNoClause holds what Clause answers where it tells an error.
func holdNoClause(t *testing.T, x term.Term, err api.Errno) {
	t.Helper()
	h, r, e := body.Clause(x)
	if e != err || !equal(h, term.Term{}) || !equal(r, term.Term{}) {
		t.Errorf("P14.1, R2: Clause(%s): %s, %s, %d; not %d", show(x), show(h), show(r), e, err)
	}
}

func TestTheExample(t *testing.T) {
	x := both(a, both(at("!"), b))
	holdOf(t, x, does(a), cut(), does(b))
	l, _ := body.Of(x)
	if body.Count(l) != 3 {
		t.Errorf("P14.1: %d goals", body.Count(l))
	}
}

func TestOfCalls(t *testing.T) {
	for _, x := range []term.Term{
		a, at("fail"), at("[]"), at(""), at("call"), at(","), at(";"), at("->"), at("\\+"), at(":-"), at("False"), at("True"), at("true "), at("!!"), at("f"), f(n(3)), f(v(0)), f(v(lastVar)), call(v(7)), call(n(3)), call(at("!")), call(call(v(0))), call(both(a, n(3))),
		term.Comp("call", v(0), v(1)), term.Comp(",", n(3)), term.Comp(",", a, b, n(3)), term.Comp(";", then(a, b)), term.Comp(";", then(a, b), a, n(3)), term.Comp("->", n(3)), term.Comp("->", a, b, c), term.Comp("\\+", a, n(3)), term.Comp("true", n(3)), term.Comp("!", n(3)), term.Comp("fail", n(3)),
		rule(a, n(3)), rule(v(0), v(1)), term.Comp("not", n(3)), term.Comp("|", a, n(3)), term.Comp("findall", v(0), both(a, b), v(1)), term.List([]term.Term{n(3), v(0)}, v(1)), term.Comp("{}", both(a, n(3))), f(both(a, b), either(a, b), then(a, b), not(a)),
	} {
		holdOf(t, x, does(x))
		holdOf(t, both(x, a), does(x), does(a))
		holdOf(t, both(a, x), does(a), does(x))
		holdOf(t, either(x, a), or(row(does(x)), doA))
		holdOf(t, either(a, x), or(doA, row(does(x))))
		holdOf(t, then(x, a), cond(row(does(x)), doA, fails))
		holdOf(t, then(a, x), cond(doA, row(does(x)), fails))
		holdOf(t, either(then(a, b), x), cond(doA, doB, row(does(x))))
		holdOf(t, not(x), nots(row(does(x))))
	}
	for _, number := range []int64{0, 1, 7, 65536, lastVar} {
		holdOf(t, v(number), does(call(v(number))))
		holdOf(t, both(v(number), call(v(number))), does(call(v(number))), does(call(v(number))))
		holdOf(t, either(v(number), not(v(number))), or(row(does(call(v(number)))), row(nots(row(does(call(v(number))))))))
	}
}

func TestOfRows(t *testing.T) {
	done, stop := at("true"), at("!")
	holdOf(t, done)
	holdOf(t, both(done, done))
	holdOf(t, both(done, both(both(done, done), done)))
	holdOf(t, stop, cut())
	holdOf(t, both(stop, stop), cut(), cut())
	holdOf(t, both(both(a, b), c), does(a), does(b), does(c))
	holdOf(t, both(a, both(b, c)), does(a), does(b), does(c))
	holdOf(t, both(both(a, done), both(done, b)), does(a), does(b))
	holdOf(t, both(both(both(a, stop), not(b)), either(a, b)), does(a), cut(), nots(doB), or(doA, doB))
	holdOf(t, either(done, done), or(nil, nil))
	holdOf(t, either(both(a, b), stop), or(row(does(a), does(b)), row(cut())))
	holdOf(t, either(a, either(b, c)), or(doA, row(or(doB, doC))))
	holdOf(t, either(either(a, b), c), or(row(or(doA, doB)), doC))
	holdOf(t, then(done, done), cond(nil, nil, fails))
	holdOf(t, then(both(a, stop), both(b, c)), cond(row(does(a), cut()), row(does(b), does(c)), fails))
	holdOf(t, then(a, then(b, c)), cond(doA, row(cond(doB, doC, fails)), fails))
	holdOf(t, then(then(a, b), c), cond(row(cond(doA, doB, fails)), doC, fails))
	holdOf(t, either(then(a, b), c), cond(doA, doB, doC))
	holdOf(t, either(then(a, b), at("fail")), cond(doA, doB, fails))
	holdOf(t, either(then(a, b), done), cond(doA, doB, nil))
	holdOf(t, either(then(a, b), then(b, c)), cond(doA, doB, row(cond(doB, doC, fails))))
	holdOf(t, either(then(a, b), either(then(b, c), c)), cond(doA, doB, row(cond(doB, doC, doC))))
	holdOf(t, not(done), nots(nil))
	holdOf(t, not(not(both(a, stop))), nots(row(nots(row(does(a), cut())))))
}

// A -> is an if with an else just if it is all that stands left of a ;.
func TestOfWhatIsNoElse(t *testing.T) {
	half := row(cond(doA, doB, fails))
	holdOf(t, either(c, then(a, b)), or(doC, half))
	holdOf(t, either(both(then(a, b), at("true")), c), or(half, doC))
	holdOf(t, either(both(at("true"), then(a, b)), c), or(half, doC))
	holdOf(t, either(either(then(a, b), at("fail")), c), or(half, doC))
	holdOf(t, either(not(then(a, b)), c), or(row(nots(half)), doC))
	holdOf(t, either(v(0), c), or(row(does(call(v(0)))), doC))
	holdOf(t, either(call(then(a, b)), c), or(row(does(call(then(a, b)))), doC))
	holdOf(t, both(then(a, b), c), append(slices.Clone(half), doC...)...)
}

func TestOfNumbers(t *testing.T) {
	for _, number := range []int64{0, 3, -3, math.MaxInt64, math.MinInt64} {
		x := n(number)
		for _, y := range []term.Term{x, both(x, a), both(a, x), either(x, a), either(a, x), then(x, a), then(a, x), either(then(x, a), b), either(then(a, x), b), either(then(a, b), x), not(x), both(x, x), both(x, v(0)), both(at("!"), x), both(at("fail"), x)} {
			holdRefused(t, y, api.ETYPE)
			holdRefused(t, both(a, y), api.ETYPE)
			holdRefused(t, both(y, a), api.ETYPE)
			holdRefused(t, either(then(a, y), b), api.ETYPE)
			holdRefused(t, not(not(y)), api.ETYPE)
			holdNoClause(t, rule(a, y), api.ETYPE)
			holdOf(t, call(y), does(call(y)))
		}
	}
}

func TestOfAndClauseOfWhatMayNotBe(t *testing.T) {
	for _, x := range bad() {
		holdRefused(t, x, api.EARG)
		holdNoClause(t, x, api.EARG)
	}
}

func TestOfAtTheLimits(t *testing.T) {
	x := n(3)
	for range api.MaxDepth - 1 {
		x = not(x)
	}
	holdRefused(t, x, api.ETYPE)
	holdRefused(t, not(x), api.EARG)
	left, right, many := a, a, doA
	for range api.MaxDepth - 1 {
		left, right, many = both(left, a), both(a, right), append(many, does(a))
	}
	holdOf(t, left, many...)
	holdOf(t, right, many...)
	holdRefused(t, both(left, a), api.EARG)
	holdRefused(t, both(a, right), api.EARG)
	holdOf(t, great(api.MaxCells), does(great(api.MaxCells)))
	holdOf(t, both(a, great(api.MaxCells-2)), does(a), does(great(api.MaxCells-2)))
	holdRefused(t, both(a, great(api.MaxCells-1)), api.EARG)
	wide, l := flat(1000), slices.Repeat(doA, 1000)
	holdOf(t, wide, l...)
	holdOf(t, not(wide), nots(l))
	holdRefused(t, not(not(wide)), api.EARG)
	holdOf(t, chain(api.MaxDepth, v(0)), does(chain(api.MaxDepth, v(0))))
	deep := v(5)
	for range api.MaxDepth - 1 {
		deep = not(deep)
	}
	inner := row(does(call(v(5))))
	for range api.MaxDepth - 1 {
		inner = row(nots(inner))
	}
	holdOf(t, deep, inner...)
}

// flat joins so many a's, no deeper than it must be.
func flat(many int) term.Term {
	if many == 1 {
		return a
	}
	return both(flat(many/2), flat(many-many/2))
}

// What is answered is new, and no two rows share room.
func TestOfIsNew(t *testing.T) {
	x := both(either(then(a, both(b, at("!"))), either(c, both(a, b))), both(not(both(a, v(0))), both(then(a, b), at("!"))))
	want, _ := body.Of(x)
	want = copied(want)
	for range 3 {
		got, e := body.Of(x)
		if e != api.OK || !equalRows(got, want) {
			t.Fatalf("R4: Of tells %s, not %s", show(got), show(want))
		}
		// A row that grows changes none that stands beside it.
		for _, g := range got {
			for i := range g.L {
				_ = append(g.L[i], body.Goal{Kind: 9})
			}
			_ = append(g.L, row(body.Goal{Kind: 9}))
		}
		_ = append(got, body.Goal{Kind: 9})
		if !equalRows(got, want) {
			t.Fatalf("R4: lists of what Of tells share room: %s, not %s", show(got), show(want))
		}
		over(got)
	}
	holdOf(t, x, want...)
}

// What is handed in is as it was, spare room too.
func TestOfAndClauseChangeNothing(t *testing.T) {
	room := []term.Term{then(a, b), both(v(0), at("!")), a, n(9)}
	x := term.Term{Kind: 2, Name: ";", Args: room[:2]}
	was := slices.Clone(room)
	for range 2 {
		holdOf(t, x, cond(doA, doB, row(does(call(v(0))), cut())))
		holdClause(t, rule(c, x), c, x)
		holdClause(t, term.Term{Kind: 2, Name: ":-", Args: room[2:3]}, term.Comp(":-", a), at("true"))
		if !slices.EqualFunc(room, was, equal) {
			t.Errorf("R4: what was handed in is %s", show(room))
		}
	}
}

func TestClause(t *testing.T) {
	done := at("true")
	heads := []term.Term{
		a, at(""), at("[]"), at("call"), at(":-"), at(","), at(";"), at("->"), at("\\+"), at("False"), f(v(0)), f(n(3)), call(v(0)), term.Comp(":-", a), term.Comp(":-", v(0)), term.Comp(":-", a, b, c), term.Comp(",", a), term.Comp(",", a, b, c), term.Comp(";", a), term.Comp(";", a, b, c),
		term.Comp("->", a), term.Comp("->", a, b, c), term.Comp("\\+", a, b), term.Comp("!", a), term.Comp("true", a), term.Comp("fail", a), term.Comp("is", v(0), n(1)), term.Comp("=", a, b), term.List([]term.Term{n(1)}, at("[]")), great(api.MaxCells - 2), chain(api.MaxDepth-1, a),
	}
	bodies := []term.Term{a, done, at("!"), at("fail"), v(0), v(lastVar), both(a, both(done, b)), either(then(a, v(1)), not(b)), then(a, b), rule(a, n(3)), f(n(3)), call(n(3))}
	for _, head := range heads {
		holdClause(t, head, head, done)
		for _, rest := range bodies {
			if term.Good(rule(head, rest)) {
				holdClause(t, rule(head, rest), head, rest)
			}
		}
		if term.Good(rule(head, not(n(3)))) {
			holdNoClause(t, rule(head, n(3)), api.ETYPE)
			holdNoClause(t, rule(head, both(a, n(3))), api.ETYPE)
			holdNoClause(t, rule(head, either(then(a, n(3)), b)), api.ETYPE)
		}
	}
	for _, rest := range append(bodies, n(3), both(a, n(3))) {
		for _, x := range []term.Term{v(0), v(7), v(lastVar)} {
			holdNoClause(t, x, api.EINST)
			holdNoClause(t, rule(x, rest), api.EINST)
		}
		for _, x := range []term.Term{n(0), n(3), n(-1), n(math.MinInt64)} {
			holdNoClause(t, x, api.ETYPE)
			holdNoClause(t, rule(x, rest), api.ETYPE)
		}
		for _, x := range []term.Term{both(a, b), both(v(0), v(1)), either(a, b), then(a, b), either(then(a, b), c), not(a), not(n(3)), at("!"), done, at("fail")} {
			holdNoClause(t, x, api.EPERM)
			holdNoClause(t, rule(x, rest), api.EPERM)
		}
		for _, x := range []term.Term{a, v(0), n(3), at("!")} {
			holdNoClause(t, rule(rule(a, x), rest), api.EPERM)
			holdNoClause(t, rule(rule(x, a), rest), api.EPERM)
		}
	}
}

func TestClauseAtTheLimits(t *testing.T) {
	for _, x := range []term.Term{great(api.MaxCells), chain(api.MaxDepth, a), chain(api.MaxDepth, v(0)), at(strings.Repeat("a", api.MaxAtom)), f(slices.Repeat([]term.Term{v(0)}, api.MaxArity)...)} {
		holdClause(t, x, x, at("true"))
	}
	holdClause(t, rule(great(1000), great(999)), great(1000), great(999))
	holdNoClause(t, rule(great(1000), great(1000)), api.EARG)
	holdClause(t, rule(a, chain(api.MaxDepth-1, a)), a, chain(api.MaxDepth-1, a))
	holdNoClause(t, rule(a, chain(api.MaxDepth, a)), api.EARG)
	holdNoClause(t, rule(v(0), chain(api.MaxDepth, a)), api.EARG)
}
