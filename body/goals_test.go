package body_test

import (
	"math"
	"slices"
	"testing"

	"sizar/api"
	"sizar/body"
	"sizar/term"
)

// holdBack holds what Back answers of what Of can make.
func holdBack(t *testing.T, l []body.Goal, want term.Term) {
	t.Helper()
	got := body.Back(l)
	if !equal(got, want) {
		t.Errorf("P14.1: Back(%s): %s, not %s", show(l), show(got), show(want))
	}
	if again, e := body.Of(got); term.Good(got) && (e != api.OK || !equalRows(again, l)) {
		t.Errorf("P14.1: Of of what Back(%s) told: %s, %d", show(l), show(again), e)
	}
}

// holdNoBack holds what Back answers of what Of cannot make.
func holdNoBack(t *testing.T, l []body.Goal) {
	t.Helper()
	if got := body.Back(l); !equal(got, term.Term{}) {
		t.Errorf("P14.1: Back(%s): %s", show(l), show(got))
	}
}

// holdNoBackWithin holds what Back answers where such a goal stands anywhere.
func holdNoBackWithin(t *testing.T, g body.Goal) {
	t.Helper()
	for _, l := range [][]body.Goal{row(g), row(g, does(a)), row(does(a), g), row(cut(), g, cut())} {
		holdNoBack(t, l)
		holdNoBack(t, row(nots(l)))
		holdNoBack(t, row(or(l, doA)))
		holdNoBack(t, row(or(doA, l)))
		holdNoBack(t, row(cond(l, doA, doB)))
		holdNoBack(t, row(cond(doA, l, doB)))
		holdNoBack(t, row(cond(doA, doB, l)))
		holdNoBack(t, row(does(a), nots(row(or(nil, row(cond(nil, l, nil)))))))
	}
}

func TestBack(t *testing.T) {
	done, stop, fail := at("true"), at("!"), at("fail")
	holdBack(t, nil, done)
	holdBack(t, row(), done)
	holdBack(t, doA, a)
	holdBack(t, fails, fail)
	holdBack(t, row(cut()), stop)
	holdBack(t, row(does(a), does(b)), both(a, b))
	holdBack(t, row(does(a), cut(), does(b), does(c)), both(a, both(stop, both(b, c))))
	holdBack(t, row(does(call(v(7)))), call(v(7)))
	holdBack(t, row(does(call(v(0))), does(call(n(3)))), both(call(v(0)), call(n(3))))
	holdBack(t, row(or(nil, nil)), either(done, done))
	holdBack(t, row(or(doA, row(does(b), cut()))), either(a, both(b, stop)))
	holdBack(t, row(or(row(or(doA, doB)), row(or(doB, doC)))), either(either(a, b), either(b, c)))
	holdBack(t, row(cond(doA, doB, doC)), either(then(a, b), c))
	holdBack(t, row(cond(doA, doB, fails)), either(then(a, b), fail))
	holdBack(t, row(cond(nil, nil, nil)), either(then(done, done), done))
	holdBack(t, row(cond(row(cut(), does(a)), row(does(b), does(c)), row(cond(doA, doB, fails)))), either(then(both(stop, a), both(b, c)), either(then(a, b), fail)))
	holdBack(t, row(or(row(cond(doA, doB, fails)), doC)), either(either(then(a, b), fail), c))
	holdBack(t, row(or(row(cond(doA, doB, doC)), doC)), either(either(then(a, b), c), c))
	holdBack(t, row(nots(nil)), not(done))
	holdBack(t, row(nots(row(nots(row(cut())), does(a))), does(b)), both(not(both(not(stop), a)), b))
}

func TestBackOfCallsThatAreNone(t *testing.T) {
	l := []term.Term{{}, v(0), v(7), n(0), n(3), at("true"), at("!"), both(a, b), both(n(3), a), either(a, b), either(then(a, b), c), then(a, b), not(a), not(n(3)), both(a, at("true")), both(at("true"), a), both(f(a), at("true")), both(both(a, b), at("true"))}
	for _, x := range append(l, bad()...) {
		holdNoBackWithin(t, does(x))
	}
	// Of these each is a call of itself.
	for _, x := range []term.Term{at("call"), at("fail"), at("True"), at(","), term.Comp(",", a), term.Comp(",", a, b, c), term.Comp(";", a), term.Comp("->", a), term.Comp("\\+", a, b), term.Comp("true", a), term.Comp("!", a), rule(a, n(3)), call(v(0)), call(n(3)), call(both(a, b)), call(at("!")), term.Comp("call", v(0), v(0)), f(v(0))} {
		holdBack(t, row(does(x)), x)
		holdBack(t, row(does(x), nots(row(does(x)))), both(x, not(x)))
	}
}

func TestBackOfOddGoals(t *testing.T) {
	some := [][][]body.Goal{nil, {}, {doA}, {nil}, {doA, doB}, {nil, nil}, {doA, doB, doC}, {doA, doB, doC, doA}}
	terms := []term.Term{{}, a, f(v(0)), v(1), n(0), n(3), {Name: "a"}, {Args: []term.Term{a}}}
	rows := map[int]int{1: 0, 2: 0, 3: 2, 4: 3, 5: 1}
	for _, kind := range []int{math.MinInt, -1, 0, 1, 2, 3, 4, 5, 6, 7, 256, 257, 258, math.MaxInt} {
		for _, l := range some {
			for i, x := range terms {
				many, known := rows[kind]
				// Just a call has a term, a name; all others none.
				well := known && many == len(l) && (kind == 1) == (i == 1 || i == 2) && (kind == 1 || i == 0)
				g := body.Goal{Kind: kind, T: x, L: l}
				if !well {
					holdNoBackWithin(t, g)
				} else if again, e := body.Of(body.Back(row(g))); e != api.OK || !equalRows(again, row(g)) {
					t.Errorf("P14.1: Of of Back of %s: %s, %d", show(g), show(again), e)
				}
			}
		}
	}
}

// within makes a row of nots around one, so many.
func within(l []body.Goal, many int) []body.Goal {
	for range many {
		l = row(nots(l))
	}
	return l
}

// calls makes a row of so many calls of a term.
func calls(x term.Term, many int) []body.Goal { return slices.Repeat(row(does(x)), many) }

// chains makes a row of calls of terms so deep.
func chains(depths ...int) []body.Goal {
	var l []body.Goal
	for _, d := range depths {
		l = append(l, does(chain(d, a)))
	}
	return l
}

// holdMade holds that Back answers of one that some body makes, though it need not be a term that may be.
func holdMade(t *testing.T, l []body.Goal) {
	t.Helper()
	holdBack(t, l, back(l))
}

// holdNested holds that some body makes a row within so many nots, and none within one more.
func holdNested(t *testing.T, l []body.Goal, many int) {
	t.Helper()
	holdMade(t, within(l, many))
	holdNoBack(t, within(l, many+1))
}

// holdRepeated holds that some body makes so many of one goal, and none one more.
func holdRepeated(t *testing.T, g body.Goal, many int) {
	t.Helper()
	holdMade(t, slices.Repeat(row(g), many))
	holdNoBack(t, slices.Repeat(row(g), many+1))
}

// Where Back's term may not be, as too great or too deep, another one may make the goals: just where none does, Back tells nothing.
func TestBackOfDeepGoals(t *testing.T) {
	half := cond(doA, doB, fails)
	holdNested(t, nil, 63)
	holdNested(t, doA, 63)
	holdNested(t, row(cut()), 63)
	holdNested(t, row(does(f(a))), 62)
	holdNested(t, row(does(call(v(0)))), 63)
	holdNested(t, row(does(call(n(0)))), 62)
	holdNested(t, row(does(call(f(v(0))))), 61)
	holdNested(t, row(does(f(v(0)))), 62)
	holdNested(t, row(does(a), does(b)), 62)
	holdNested(t, calls(a, 4), 61)
	holdNested(t, calls(a, 5), 60)
	holdNested(t, calls(a, 64), 57)
	holdNested(t, calls(a, 65), 56)
	holdNested(t, calls(a, 900), 53)
	holdNested(t, row(or(nil, nil)), 62)
	holdNested(t, row(or(doA, doB)), 62)
	holdNested(t, row(half), 62)
	holdNested(t, row(cond(doA, doB, doC)), 61)
	holdNested(t, row(cond(doA, doB, calls(at("fail"), 2))), 61)
	holdNested(t, row(cond(doA, doB, row(cut()))), 61)
	holdNested(t, row(cond(doA, doB, nil)), 61)
	holdNested(t, row(cond(doA, doB, row(does(f(at("fail")))))), 61)
	holdNested(t, row(cond(doA, doB, row(does(term.Comp("fail", a))))), 61)
	holdNested(t, row(cond(row(half), doB, fails)), 61)
	holdNested(t, row(cond(doA, row(half), fails)), 61)
	holdNested(t, row(cond(doA, doB, row(half))), 61)
	holdNested(t, row(or(row(half), doC)), 60)
	holdNested(t, row(or(row(half, does(a)), doC)), 60)
	holdNested(t, row(or(doC, row(half))), 61)
	holdNested(t, row(or(row(cond(doA, doB, doC)), doC)), 60)
	holdNested(t, row(or(row(nots(row(half))), doC)), 60)
	holdNested(t, calls(a, 64), 57)
	holdMade(t, calls(a, 64))
	if x := body.Back(calls(a, 64)); !term.Good(x) || term.Good(body.Back(calls(a, 65))) {
		t.Errorf("P14.1: Back of a row of 64 tells %s", show(x))
	}
}

func TestBackOfManyGoals(t *testing.T) {
	half := cond(doA, doB, fails)
	holdRepeated(t, does(a), 1000)
	holdRepeated(t, cut(), 1000)
	holdRepeated(t, does(call(v(0))), 1000)
	holdRepeated(t, does(call(n(0))), 667)
	holdRepeated(t, does(f(v(0))), 667)
	holdRepeated(t, nots(nil), 667)
	holdRepeated(t, nots(doA), 667)
	holdRepeated(t, or(nil, nil), 500)
	holdRepeated(t, half, 500)
	holdRepeated(t, or(row(half), doC), 250)
	holdRepeated(t, or(doC, row(half)), 333)
	holdRepeated(t, cond(doA, doB, doC), 333)
	holdRepeated(t, cond(row(half), doB, doC), 250)
	holdMade(t, append(calls(a, 999), does(f(a))))
	holdNoBack(t, append(calls(a, 998), does(f(a)), does(f(a))))
	holdMade(t, append(calls(f(a), 1), calls(a, 999)...))
	holdMade(t, row(nots(calls(a, 999)), does(a)))
	holdNoBack(t, row(nots(calls(a, 1000)), does(a)))
	holdMade(t, row(does(great(api.MaxCells))))
	holdMade(t, row(does(a), does(great(api.MaxCells-2))))
	holdNoBack(t, row(does(a), does(great(api.MaxCells-1))))
	holdMade(t, row(nots(row(does(great(api.MaxCells-1))))))
	holdNoBack(t, row(nots(row(does(great(api.MaxCells))))))
	holdMade(t, row(or(row(does(great(1000))), row(does(great(999))))))
	holdNoBack(t, row(or(row(does(great(1000))), row(does(great(1000))))))
	holdNoBack(t, slices.Repeat(row(does(great(api.MaxCells))), 3000))
	holdNoBack(t, calls(a, 1<<20))
	holdNoBack(t, row(or(nil, calls(a, 1<<20))))
}

// How deep a body must be hangs on the order of what it joins.
func TestBackOfUnevenGoals(t *testing.T) {
	for _, depths := range [][]int{
		{64}, {63, 63}, {63, 62, 62}, {62, 62, 63}, {62, 61, 61, 63}, {62, 61, 62}, {1, 63}, {63, 1}, {63, 1, 2, 3}, {3, 2, 1, 63}, {62, 62, 62, 61, 61}, {61, 61, 62, 62, 62}, {62, 61, 61, 62, 62}, {62, 62, 61, 61, 62},
		{60, 60, 60, 60, 60, 60, 60, 60, 60, 60, 60, 60, 60, 60, 60, 60}, {62, 1, 62, 1}, {60, 62, 62, 62}, {61, 62, 62, 61}, {59, 60, 61, 62, 63},
	} {
		holdMade(t, chains(depths...))
	}
	for _, depths := range [][]int{
		{65}, {64, 1}, {1, 64}, {1, 64, 1}, {63, 63, 1}, {1, 63, 63}, {63, 1, 63}, {1, 63, 1}, {62, 63, 62}, {61, 62, 62, 62, 61}, {61, 62, 61, 62, 62}, {62, 61, 62, 61, 62}, {62, 62, 61, 62, 61}, {62, 1, 62, 1, 62},
		{60, 60, 60, 60, 60, 60, 60, 60, 60, 60, 60, 60, 60, 60, 60, 60, 1}, {60, 62, 62, 62, 60}, {63, 62, 61, 60, 59, 59, 1}, {1, 62, 62, 62, 1}, {2, 63, 2},
	} {
		holdNoBack(t, chains(depths...))
	}
	holdMade(t, chains(slices.Repeat([]int{59}, 32)...))
	holdNoBack(t, chains(slices.Repeat([]int{59}, 33)...))
}

// shared makes a row so deep that has each one within twice: so that there are 2^deep ways and more.
func shared(deep int, l []body.Goal) []body.Goal {
	for range deep {
		l = row(or(l, l), does(a))
	}
	return l
}

// endless makes a row that has itself within, ahead of another goal.
func endless(g body.Goal) []body.Goal {
	l := row(or(nil, nil), nots(nil), cond(nil, nil, nil), g)
	l[0].L[0], l[0].L[1], l[1].L[0] = l, l[:2], l
	l[2].L[0], l[2].L[1], l[2].L[2] = l, l[1:], l
	return l
}

func TestBackOfWhatHasNoEnd(t *testing.T) {
	for _, l := range [][]body.Goal{endless(does(a)), endless(cut()), shared(70, doA), shared(200, nil), within(doA, 1<<16), within(nil, 1<<16), shared(70, row(body.Goal{Kind: 9}))} {
		holdNoBack(t, l)
		holdNoBack(t, row(nots(l)))
		holdNoBack(t, row(does(a), cond(nil, nil, l)))
	}
	holdMade(t, shared(7, nil))
	holdMade(t, shared(8, nil))
	holdNoBack(t, shared(9, nil))
}

// holdCount holds what Count answers.
func holdCount(t *testing.T, l []body.Goal, want int) {
	t.Helper()
	if got := body.Count(l); got != want {
		t.Errorf("P14.1: Count(%s): %d, not %d", show(l), got, want)
	}
}

func TestCount(t *testing.T) {
	holdCount(t, nil, 0)
	holdCount(t, row(), 0)
	holdCount(t, doA, 1)
	holdCount(t, row(does(both(a, b))), 1)
	holdCount(t, row(does(a), cut(), does(b)), 3)
	holdCount(t, row(or(nil, nil)), 1)
	holdCount(t, row(or(doA, nil)), 2)
	holdCount(t, row(or(doA, row(does(b), cut()))), 4)
	holdCount(t, row(cond(doA, doB, doC)), 4)
	holdCount(t, row(cond(doA, doB, fails), nots(doA)), 6)
	holdCount(t, row(cond(doA, nil, row(does(a), or(doB, row(nots(doC)))))), 7)
	holdCount(t, row(nots(row(nots(row(nots(nil)))))), 3)
	holdCount(t, calls(a, 1<<20), 1<<20)
	holdCount(t, within(doA, 1<<16), 1<<16+1)
	// A row counts wherever it stands.
	holdCount(t, row(or(doA, doA), nots(doA), cond(doA, doA, doA)), 9)
	holdCount(t, shared(1, doA), 4)
	holdCount(t, shared(2, doA), 10)
	holdCount(t, shared(50, nil), 2<<50-2)
	l := row(does(a), cut(), nots(doA), does(b))
	holdCount(t, row(or(l[:1], l[:3]), cond(l[1:], l[:0], l)), 2+1+4+4+5)
	// All goals count, of any kind.
	holdCount(t, row(body.Goal{}), 1)
	holdCount(t, row(body.Goal{Kind: 9, L: [][]body.Goal{doA, doB, nil, row(cut(), nots(doC))}}, cond(doA), or(), nots(doA, doB)), 12)
}

// holdCuts holds what Cuts answers.
func holdCuts(t *testing.T, l []body.Goal, want bool) {
	t.Helper()
	if got := body.Cuts(l); got != want {
		t.Errorf("P14.1: Cuts(%s): %v", show(l), got)
	}
}

func TestCuts(t *testing.T) {
	stop := row(cut())
	for _, l := range [][]body.Goal{nil, {}, doA, row(does(a), does(at("!"))), row(does(call(at("!")))), row(or(doA, doB), cond(doA, doB, doC), nots(doA)), row(or(nil, nil), cond(nil, nil, nil), nots(nil))} {
		holdCuts(t, l, false)
		for _, s := range [][]body.Goal{stop, row(does(a), cut()), row(cut(), cut()), row(or(doA, stop)), row(or(stop, doA)), row(cond(doA, stop, doB)), row(cond(doA, doB, stop)), row(cond(stop, stop, nil)), row(nots(stop), cut()), row(or(doA, row(cond(nil, row(does(a), or(stop, nil)), nil))))} {
			holdCuts(t, s, true)
			holdCuts(t, append(slices.Clone(s), l...), true)
			holdCuts(t, append(slices.Clone(l), s...), true)
			holdCuts(t, row(or(l, s)), true)
			holdCuts(t, row(or(s, l)), true)
			holdCuts(t, row(cond(l, s, l)), true)
			holdCuts(t, row(cond(l, l, s)), true)
			holdCuts(t, row(cond(s, l, l)), false)
			holdCuts(t, row(nots(s)), false)
			holdCuts(t, row(cond(row(or(s, s)), l, l), nots(row(or(s, s))), does(a)), false)
			holdCuts(t, row(nots(row(cond(l, s, s)))), false)
			// What doesn't cut the clause here may cut it where it stands again.
			holdCuts(t, row(nots(s), cond(s, l, l), or(l, s)), true)
			holdCuts(t, row(cond(s, l, s)), true)
			holdCuts(t, row(cond(s, s, l)), true)
		}
	}
	// A row that begins where another one does is not that one.
	two := row(does(a), cut())
	holdCuts(t, row(or(two[:1], two)), true)
	holdCuts(t, row(or(two, two[:1])), true)
	holdCuts(t, row(or(two[:1], two[:1]), nots(two)), false)
	holdCuts(t, within(stop, 1<<16), false)
	l := stop
	for range 1 << 16 {
		l = row(cond(doA, l, doB))
	}
	holdCuts(t, l, true)
	holdCuts(t, shared(70, doA), false)
	holdCuts(t, shared(70, stop), true)
	holdCuts(t, row(does(a), cond(shared(70, stop), nil, nil)), false)
}

// Of what Of cannot make something is told, too.
func TestCountAndCutsOfOddGoals(t *testing.T) {
	stop := row(cut())
	holdCuts(t, row(cond(), cond(stop), or(), nots(), nots(doA, stop), body.Goal{}, body.Goal{Kind: -1}, does(n(3))), false)
	holdCuts(t, row(cond(stop, stop)), true)
	holdCuts(t, row(or(doA, doB, stop)), true)
	holdCuts(t, row(body.Goal{Kind: 2, T: a, L: [][]body.Goal{doA}}), true)
	holdCuts(t, endless(does(a)), false)
	holdCuts(t, endless(cut()), true)
	holdCuts(t, row(nots(endless(cut()))), false)
	for _, l := range [][]body.Goal{endless(does(a)), endless(cut())} {
		if body.Count(l) < 4 {
			t.Errorf("R1: Count of what has no end: %d", body.Count(l))
		}
	}
}

// What is handed in is as it was, spare room too, and nothing is kept of it.
func TestBackCountAndCutsChangeNothing(t *testing.T) {
	room := row(does(a), or(doA, row(cut(), does(b))), cond(doA, doB, fails), nots(doC), cut(), body.Goal{Kind: 9})
	was := copied(room)
	for range 2 {
		l := room[:3]
		holdMade(t, l)
		holdCount(t, l, 9)
		holdCuts(t, l, true)
		holdCuts(t, l[2:], false)
		if !equalRows(room, was) {
			t.Errorf("R4: what was handed in is %s", show(room))
		}
	}
	l := row(or(doA, doB), does(c))
	x := body.Back(l)
	holdCount(t, l, 4)
	l[0].L[0] = row(cut(), does(c))
	holdCount(t, l, 5)
	holdCuts(t, l, true)
	if !equal(x, both(either(a, b), c)) || !equal(body.Back(l), both(either(both(at("!"), c), b), c)) {
		t.Errorf("R4: Back keeps what was handed in: %s, %s", show(x), show(body.Back(l)))
	}
}
