package index_test

import (
	"math"
	"slices"
	"testing"

	"sizar/index"
)

// filled makes an index of keys.
func filled(l ...index.Key) *index.Index {
	x := index.New()
	for _, k := range l {
		x.Add(k)
	}
	return x
}

// holdPicked holds what an index picks.
func holdPicked(t *testing.T, x *index.Index, k index.Key, want ...int) {
	t.Helper()
	if got := x.Pick(k); !slices.Equal(got, want) {
		t.Errorf("P16.1: Pick of %+v: %v, not %v", k, got, want)
	}
}

// holdDrop holds whether there was something to be dropped.
func holdDrop(t *testing.T, x *index.Index, i int, want bool) {
	t.Helper()
	if x.Drop(i) != want {
		t.Errorf("P16.1: Drop(%d): %v", i, !want)
	}
}

// holdAdd holds a place.
func holdAdd(t *testing.T, x *index.Index, k index.Key, want int) {
	t.Helper()
	if got := x.Add(k); got != want {
		t.Errorf("P16.1: Add of %+v: %d, not %d", k, got, want)
	}
}

func TestPlacesComeOnce(t *testing.T) {
	x := index.New()
	for i, k := range keys() {
		holdAdd(t, x, k, 2*i)
		holdAdd(t, x, k, 2*i+1)
	}
	next := 2 * len(keys())
	for i := range next {
		holdDrop(t, x, i, true)
	}
	for _, k := range keys() {
		holdPicked(t, x, k)
		holdAdd(t, x, k, next)
		holdPicked(t, x, k, next)
		holdDrop(t, x, next, true)
		holdPicked(t, x, k)
		next++
	}
}

func TestDropOfOneBehindAnother(t *testing.T) {
	a, b := name("a", 0), num(3)
	x := filled(a, b, index.Key{}, a, a, index.Key{N: 1}, b)
	holdPicked(t, x, a, 0, 2, 3, 4, 5)
	// one between two of its own row, then the last, then the first.
	holdDrop(t, x, 3, true)
	holdPicked(t, x, a, 0, 2, 4, 5)
	holdPicked(t, x, index.Key{}, 0, 1, 2, 4, 5, 6)
	holdDrop(t, x, 4, true)
	holdPicked(t, x, a, 0, 2, 5)
	holdDrop(t, x, 0, true)
	holdPicked(t, x, a, 2, 5)
	holdPicked(t, x, b, 1, 2, 5, 6)
	// those that may fit all.
	holdDrop(t, x, 2, true)
	holdPicked(t, x, a, 5)
	holdDrop(t, x, 5, true)
	holdPicked(t, x, a)
	holdPicked(t, x, b, 1, 6)
	holdPicked(t, x, index.Key{Arity: 3}, 1, 6)
	holdAdd(t, x, a, 7)
	holdPicked(t, x, a, 7)
	holdPicked(t, x, index.Key{}, 1, 6, 7)
}

func TestDropOfNone(t *testing.T) {
	a := name("a", 0)
	for _, x := range []*index.Index{index.New(), filled(a), filled(index.Key{}), filled(a, index.Key{}, a)} {
		l := x.Pick(index.Key{})
		none := []int{math.MinInt, math.MinInt32, -2, -1, len(l), len(l) + 1, 1 << 16, 1 << 32, math.MaxInt32, math.MaxInt}
		for _, i := range none {
			holdDrop(t, x, i, false)
			holdPicked(t, x, index.Key{}, l...)
			holdPicked(t, x, a, l...)
		}
		// What was refused takes no place of one that comes behind it.
		holdAdd(t, x, a, len(l))
		holdPicked(t, x, a, append(l, len(l))...)
	}
}

func TestDropTwice(t *testing.T) {
	for _, k := range keys() {
		x := filled(k, k, k)
		for _, i := range []int{1, 0, 2} {
			holdDrop(t, x, i, true)
			left := x.Pick(k)
			holdDrop(t, x, i, false)
			holdPicked(t, x, k, left...)
		}
		// Neither is one there again because its key is.
		holdAdd(t, x, k, 3)
		for i := range 3 {
			holdDrop(t, x, i, false)
		}
		holdPicked(t, x, k, 3)
		holdDrop(t, x, 3, true)
		holdDrop(t, x, 3, false)
	}
}

func TestOneIndexKnowsNothingOfAnother(t *testing.T) {
	a := name("a", 0)
	x, y := filled(a, a), index.New()
	holdPicked(t, y, index.Key{})
	holdDrop(t, y, 0, false)
	holdAdd(t, y, num(1), 0)
	holdDrop(t, x, 0, true)
	holdPicked(t, x, a, 1)
	holdPicked(t, y, num(1), 0)
	holdAdd(t, y, a, 1)
	holdAdd(t, x, a, 2)
}

func TestAnIndexSharesNothing(t *testing.T) {
	a := name("a", 0)
	x := filled(a, num(1), a, index.Key{}, a)
	for _, c := range []struct {
		k    index.Key
		want []int
	}{{a, []int{0, 2, 3, 4}}, {num(1), []int{1, 3}}, {num(2), []int{3}}, {index.Key{}, []int{0, 1, 2, 3, 4}}} {
		first, second := x.Pick(c.k), x.Pick(c.k)
		over(first)
		if !slices.Equal(second, c.want) {
			t.Errorf("R4: Pick of %+v: %v behind a change of another answer", c.k, second)
		}
		holdPicked(t, x, c.k, c.want...)
	}
	// Neither is one that was told changed by what comes behind it.
	all, some := x.Pick(index.Key{}), x.Pick(a)
	holdDrop(t, x, 0, true)
	holdDrop(t, x, 3, true)
	x.Add(a)
	if !slices.Equal(all, []int{0, 1, 2, 3, 4}) || !slices.Equal(some, []int{0, 2, 3, 4}) {
		t.Errorf("R4: %v and %v behind other calls", all, some)
	}
}
