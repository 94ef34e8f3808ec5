package sig_test

import (
	"slices"
	"testing"

	"sizar/api"
	"sizar/sig"
	"sizar/term"
)

// dice tells numbers, the same ones each time.
type dice uint64

// upTo tells one from 0 to most.
func (d *dice) upTo(most int) int {
	*d = *d*6364136223846793005 + 1442695040888963407
	return int(*d>>33) % (most + 1)
}

// counted are how many of a list's predicates are wrong, are mach's own, and are there a second time.
type counted struct{ wrong, plain, again int }

// count counts them, each by itself.
func count(l []sig.Pred) counted {
	var c counted
	seen, own := map[key]int{}, owns()
	for _, one := range l {
		k := key{one.Name, one.Arity}
		// No other wrong ones are in the pool.
		if one.Arity < 0 || one.Ceil > 3 {
			c.wrong++
		}
		if _, ok := own[k]; ok {
			c.plain++
		}
		if seen[k] > 0 {
			c.again++
		}
		seen[k]++
	}
	return c
}

// model tells the error that New answers of so many predicates.
func (c counted) model(many int) api.Errno {
	switch {
	case many > api.MaxPreds || c.wrong > 0:
		return api.EARG
	case c.plain > 0:
		return api.EPERM
	case c.again > 0:
		return api.EFULL
	}
	return api.OK
}

// pool are predicates of which lists are made: all kinds.
func pool() []sig.Pred {
	return []sig.Pred{p("p", 0), p("p", 1), {Name: "p", Arity: 1, Ceil: 3, Dynamic: true}, p("q", 1), {Name: "is", Arity: 1, Ceil: 2}, p("is", 2), {Name: "!", Dynamic: true}, p("p", -1), {Name: "p", Arity: 1, Ceil: 4}}
}

// every makes all rows of so many of the pool behind those that are told.
func every(t *testing.T, row []sig.Pred, more int) {
	t.Helper()
	holdNew(t, ab(), row, count(row).model(len(row)))
	if more == 0 {
		return
	}
	for _, one := range pool() {
		every(t, append(slices.Clone(row), one), more-1)
	}
}

func TestEveryShortList(t *testing.T) { every(t, nil, 3) }

func TestManyLists(t *testing.T) {
	d := dice(17)
	seen := map[api.Errno]int{}
	for i := range 3000 {
		l := many(d.upTo(api.MaxPreds + 1))
		for range d.upTo(3) * (i % 2) {
			one := pool()[d.upTo(len(pool())-1)]
			at := d.upTo(len(l))
			l = slices.Insert(l, at, one)
		}
		want := count(l).model(len(l))
		seen[want]++
		holdNew(t, ab(), l, want)
		if want == api.OK {
			holdEach(t, l)
		}
	}
	for _, e := range []api.Errno{api.OK, api.EARG, api.EPERM, api.EFULL} {
		if seen[e] < 50 {
			t.Errorf("only %d lists of error %d", seen[e], e)
		}
	}
}

// holdEach holds Find and Of of each small predicate against a list that is looked through.
func holdEach(t *testing.T, l []sig.Pred) {
	t.Helper()
	s, own := made(t, ab(), l...), owns()
	for _, name := range []string{"p", "q", "is", "!", "p0", "p1", "p5", "p10", "p11"} {
		for arity := range 4 {
			want, e := sig.Pred{}, api.EEXIST
			for _, one := range l {
				if one.Name == name && one.Arity == arity {
					want, e = one, api.OK
				}
			}
			if got, ok := s.Find(name, arity); got != want || ok != (e == api.OK) {
				t.Fatalf("P17.1: Find(%q, %d) of %s: %s, %v", name, arity, show(l), show(got), ok)
			}
			if _, ok := own[key{name, arity}]; ok {
				e = api.EPERM
			}
			holdOf(t, s, term.Comp(name, make([]term.Term, arity)...), want, e)
		}
	}
}
