package index_test

import (
	"slices"
	"testing"

	"sizar/api"
	"sizar/bind"
	"sizar/index"
	"sizar/term"
	"sizar/unify"
)

// model has all keys that were ever added, and whether each is there: it asks of one behind another.
type model struct {
	keys []index.Key
	gone []bool
}

// add adds a key.
func (m *model) add(k index.Key) int {
	m.keys, m.gone = append(m.keys, k), append(m.gone, false)
	return len(m.keys) - 1
}

// drop takes one out.
func (m *model) drop(i int) bool {
	if i < 0 || i >= len(m.keys) || m.gone[i] {
		return false
	}
	m.gone[i] = true
	return true
}

// pick picks.
func (m *model) pick(k index.Key) []int {
	var l []int
	for i, other := range m.keys {
		if !m.gone[i] && (k.Kind == 0 || other.Kind == 0 || k == other) {
			l = append(l, i)
		}
	}
	return l
}

// holdAlike holds what an index picks of keys against what its model does.
func holdAlike(t *testing.T, x *index.Index, m *model, l []index.Key) {
	t.Helper()
	for _, k := range l {
		if got, want := x.Pick(k), m.pick(k); !slices.Equal(got, want) {
			t.Fatalf("P16.1: Pick of %+v: %v, not %v", k, got, want)
		}
	}
}

// few are the keys of the short rows of calls.
func few() []index.Key {
	return []index.Key{{}, name("a", 0), name("a", 1), num(1)}
}

// do does one call of an index and of its model: a number below how many keys there are adds that one, another drops.
func do(t *testing.T, x *index.Index, m *model, call int) {
	t.Helper()
	if call < len(few()) {
		if got, want := x.Add(few()[call]), m.add(few()[call]); got != want {
			t.Fatalf("P16.1: Add: %d, not %d", got, want)
		}
		return
	}
	i := call - len(few())
	if got, want := x.Drop(i), m.drop(i); got != want {
		t.Fatalf("P16.1: Drop(%d): %v, not %v", i, got, want)
	}
}

// every does all rows of so many calls behind those that are told.
func every(t *testing.T, row []int, more int) {
	t.Helper()
	x, m := index.New(), &model{}
	for _, call := range row {
		do(t, x, m, call)
	}
	holdAlike(t, x, m, few())
	if more == 0 {
		return
	}
	for call := range len(few()) + 4 {
		every(t, append(slices.Clone(row), call), more-1)
	}
}

func TestEveryShortRowOfCalls(t *testing.T) { every(t, nil, 5) }

// dice tells numbers, the same ones each time.
type dice uint64

// upTo tells one from 0 to most.
func (d *dice) upTo(most int) int {
	*d = *d*6364136223846793005 + 1442695040888963407
	return int(*d>>33) % (most + 1)
}

// some does one call of an index and of its model: an add, if a roll of ten is below that.
func (d *dice) some(t *testing.T, x *index.Index, m *model, k index.Key, adds int) {
	t.Helper()
	if d.upTo(9) < adds {
		if got, want := x.Add(k), m.add(k); got != want {
			t.Fatalf("P16.1: Add(%+v): %d, not %d", k, got, want)
		}
		return
	}
	i := d.upTo(len(m.keys)+3) - 2
	if got, want := x.Drop(i), m.drop(i); got != want {
		t.Fatalf("P16.1: Drop(%d): %v, not %v", i, got, want)
	}
}

func TestManyCalls(t *testing.T) {
	d := dice(16)
	l := keys()
	for i := range 40 {
		x, m := index.New(), &model{}
		for range 400 {
			k := l[d.upTo(len(l)-1)]
			// Some indexes come to be great, some are emptied again and again.
			d.some(t, x, m, k, i%9+1)
			holdAlike(t, x, m, []index.Key{{}, k, l[d.upTo(len(l)-1)]})
		}
		holdAlike(t, x, m, l)
		holdList(t, x, m)
	}
}

// holdList holds what an index picks against what is picked of a list of all that it has.
func holdList(t *testing.T, x *index.Index, m *model) {
	t.Helper()
	var left []index.Key
	places := x.Pick(index.Key{})
	for _, i := range places {
		left = append(left, m.keys[i])
	}
	for _, k := range keys() {
		var want []int
		for _, i := range index.Pick(left, k) {
			want = append(want, places[i])
		}
		holdPicked(t, x, k, want...)
	}
}

func TestAGreatIndex(t *testing.T) {
	const count = 60000
	x := index.New()
	for i := range count {
		holdAdd(t, x, num(int64(i/2)), i)
	}
	holdAdd(t, x, index.Key{}, count)
	for i := 0; i < count; i += 2 {
		k := num(int64(i / 2))
		holdPicked(t, x, k, i, i+1, count)
		holdDrop(t, x, i, true)
		holdPicked(t, x, k, i+1, count)
		holdDrop(t, x, i+1, true)
		holdPicked(t, x, k, count)
	}
	holdPicked(t, x, index.Key{}, count)
}

// small are all terms of a first Arg, and one behind it, that are small.
func small() []term.Term {
	leaves := []term.Term{v(0), v(1), n(0), n(1), at("a"), at("f"), at("")}
	inner := slices.Clone(leaves)
	for _, x := range leaves {
		inner = append(inner, f(x), term.Comp("", x), f(x, v(0)), f(x, n(1)))
	}
	l := []term.Term{f()}
	for _, x := range inner {
		l = append(l, f(x))
		for _, y := range leaves {
			l = append(l, f(x, y))
		}
	}
	return l
}

// None is left out that fits: and what is left out is so for its first Arg alone.
func TestWhatFitsMay(t *testing.T) {
	for _, head := range small() {
		for _, call := range small() {
			may := index.May(index.Of(head), index.Of(call))
			if unify.Could(head, call) && !may {
				t.Errorf("P16.1: %v and %v can be made alike, and may not fit", head, call)
			}
			if len(head.Args) == 0 || len(call.Args) == 0 {
				continue
			}
			if want := tops(head.Args[0], call.Args[0]); may != want {
				t.Errorf("P16.1: May of %v and %v: %v", head, call, may)
			}
		}
	}
}

// tops tells whether two can be made alike, if all their Args are other variables.
func tops(a, b term.Term) bool {
	x, y := bare(a, 0), bare(b, int64(len(a.Args)+1))
	binds := bind.New()
	for range len(a.Args) + len(b.Args) + 2 {
		binds.Fresh()
	}
	ok, _, e := unify.Both(binds, x, y)
	return ok && e == api.OK
}

// bare puts variables, from a number on, in place of a term's Args, or of itself, if it is one.
func bare(x term.Term, from int64) term.Term {
	if x.Kind == 0 {
		return v(from)
	}
	var args []term.Term
	for i := range x.Args {
		args = append(args, v(from+int64(i)))
	}
	return term.Term{Kind: x.Kind, N: x.N, Name: x.Name, Args: args}
}
