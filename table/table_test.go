package table_test

import (
	"math"
	"slices"
	"strconv"
	"testing"

	"sizar/table"
)

// same tells whether two answers are alike.
func same[K comparable](a, b K) bool { return a == b }

// holdPut holds what Put answers against what it should.
func holdPut[K comparable](t *testing.T, x *table.Table[K], k K, want int, wantOk bool) {
	t.Helper()
	if got, ok := x.Put(k); got != want || ok != wantOk {
		t.Errorf("P3.1: Put(%v): %d, %v; not %d, %v", k, got, ok, want, wantOk)
	}
}

// holdFind holds what Find answers against what it should.
func holdFind[K comparable](t *testing.T, x *table.Table[K], k K, want int, wantOk bool) {
	t.Helper()
	if got, ok := x.Find(k); got != want || ok != wantOk {
		t.Errorf("P3.1: Find(%v): %d, %v; not %d, %v", k, got, ok, want, wantOk)
	}
}

// holdAll holds all that a table tells against the keys that it should have.
func holdAll[K comparable](t *testing.T, x *table.Table[K], want ...K) {
	t.Helper()
	if got := x.All(); !slices.Equal(got, want) {
		t.Errorf("P3.1: All: %v, not %v", got, want)
	}
	if got := x.Len(); got != len(want) {
		t.Errorf("P3.1: Len: %d, not %d", got, len(want))
	}
	for i, k := range want {
		if got, ok := x.At(i); !same(got, k) || !ok {
			t.Errorf("P3.1: At(%d): %v, %v; not %v", i, got, ok, k)
		}
		holdFind(t, x, k, i, true)
	}
	var none K
	for _, i := range []int{-1, len(want), len(want) + 1, math.MaxInt, math.MinInt} {
		if got, ok := x.At(i); !same(got, none) || ok {
			t.Errorf("P3.1: At(%d) of %d: %v, %v", i, len(want), got, ok)
		}
	}
}

func TestNumbersInTheOrderInWhichTheyCame(t *testing.T) {
	x := table.New[string](9)
	holdAll(t, x)
	holdFind(t, x, "a", 0, false)
	holdFind(t, x, "", 0, false)
	holdPut(t, x, "a", 0, true)
	holdPut(t, x, "b", 1, true)
	holdPut(t, x, "a", 0, true)
	holdPut(t, x, "", 2, true)
	holdPut(t, x, "b", 1, true)
	holdPut(t, x, "B", 3, true)
	holdPut(t, x, "a\x00", 4, true)
	holdAll(t, x, "a", "b", "", "B", "a\x00")
	holdFind(t, x, "c", 0, false)
	holdAll(t, x, "a", "b", "", "B", "a\x00")
}

func TestNoRoom(t *testing.T) {
	x := table.New[int](3)
	for i, k := range []int{0, -1, math.MaxInt} {
		holdPut(t, x, k, i, true)
	}
	holdPut(t, x, 7, 0, false)
	holdPut(t, x, 7, 0, false)
	holdFind(t, x, 7, 0, false)
	for i, k := range []int{0, -1, math.MaxInt} {
		holdPut(t, x, k, i, true)
	}
	holdAll(t, x, 0, -1, math.MaxInt)
	if !x.Cut(2) {
		t.Errorf("P3.1: Cut(2) of 3 is false")
	}
	holdPut(t, x, 7, 2, true)
	holdPut(t, x, 8, 0, false)
	holdAll(t, x, 0, -1, 7)
}

func TestHowManyThereIsRoomFor(t *testing.T) {
	for _, c := range []struct{ most, want int }{
		{math.MinInt, 1},
		{-65536, 1},
		{-1, 1},
		{0, 1},
		{1, 1},
		{2, 2},
		{300, 300},
		{65535, 65535},
		{65536, 65536},
		{65537, 65536},
		{1 << 40, 65536},
		{math.MaxInt, 65536},
	} {
		x := table.New[int](c.most)
		for i := range c.want + 3 {
			if got, ok := x.Put(-i); ok != (i < c.want) || ok && got != i || !ok && got != 0 {
				t.Fatalf("P3.1: New(%d), the key %d: %d, %v", c.most, i, got, ok)
			}
		}
		if x.Len() != c.want || len(x.All()) != c.want {
			t.Errorf("P3.1: New(%d) has room for %d, not %d", c.most, x.Len(), c.want)
		}
		if got, ok := x.At(c.want - 1); got != 1-c.want || !ok {
			t.Errorf("P3.1: New(%d), At the last: %d, %v", c.most, got, ok)
		}
		holdFind(t, x, 1-c.want, c.want-1, true)
		holdFind(t, x, -c.want, 0, false)
	}
}

func TestCut(t *testing.T) {
	keys := []string{"d", "a", "c", "b"}
	for n := -2; n <= len(keys)+2; n++ {
		x := table.New[string](5)
		for _, k := range keys {
			x.Put(k)
		}
		if got, want := x.Cut(n), n >= 0 && n <= len(keys); got != want {
			t.Errorf("P3.1: Cut(%d) of %d: %v", n, len(keys), got)
		}
		if n < 0 || n > len(keys) {
			holdAll(t, x, keys...)
			continue
		}
		holdAll(t, x, keys[:n]...)
		for _, k := range keys[n:] {
			holdFind(t, x, k, 0, false)
		}
		for _, past := range []int{n + 1, len(keys) + 1, math.MaxInt, -1, math.MinInt} {
			if x.Cut(past) {
				t.Errorf("P3.1: Cut(%d) of %d is true", past, n)
			}
		}
		holdAll(t, x, keys[:n]...)
		holdPut(t, x, "new", n, true)
		if n < len(keys) {
			holdPut(t, x, keys[len(keys)-1], n+1, true)
			holdAll(t, x, append(slices.Clone(keys[:n]), "new", "b")...)
		}
	}
}

func TestCutOfAnEmptyOne(t *testing.T) {
	x := table.New[string](1)
	if x.Cut(1) || x.Cut(-1) || !x.Cut(0) {
		t.Errorf("P3.1: Cut of an empty table")
	}
	holdAll(t, x)
	holdPut(t, x, "a", 0, true)
	holdAll(t, x, "a")
}

// slow is a table that is looked through from its first key on.
type slow struct {
	most int
	keys []int
}

// put does what Put should.
func (s *slow) put(k int) (int, bool) {
	if i := slices.Index(s.keys, k); i >= 0 {
		return i, true
	}
	if len(s.keys) == s.most {
		return 0, false
	}
	s.keys = append(s.keys, k)
	return len(s.keys) - 1, true
}

// cut does what Cut should.
func (s *slow) cut(n int) bool {
	if n < 0 || n > len(s.keys) {
		return false
	}
	s.keys = s.keys[:n]
	return true
}

func TestManyCallsAgainstASlowTable(t *testing.T) {
	next := uint32(1)
	roll := func(n int) int {
		next = next*1664525 + 1013904223
		return int(next>>16) % n
	}
	for most := 1; most <= 20; most++ {
		x, s := table.New[int](most), &slow{most: most}
		for range 400 {
			if roll(8) == 0 {
				n := roll(most+4) - 2
				if got, want := x.Cut(n), s.cut(n); got != want {
					t.Errorf("P3.1: Cut(%d) of %v: %v", n, s.keys, got)
				}
			} else {
				k := roll(30)
				want, ok := s.put(k)
				holdPut(t, x, k, want, ok)
			}
			holdAll(t, x, s.keys...)
			for k := range 30 {
				i := slices.Index(s.keys, k)
				holdFind(t, x, k, max(i, 0), i >= 0)
			}
		}
	}
}

func TestKeysOfManyKinds(t *testing.T) {
	type pair struct {
		name string
		n    [2]int8
	}
	p := table.New[pair](4)
	holdPut(t, p, pair{"a", [2]int8{1, 2}}, 0, true)
	holdPut(t, p, pair{"a", [2]int8{2, 1}}, 1, true)
	holdPut(t, p, pair{}, 2, true)
	holdPut(t, p, pair{"a", [2]int8{1, 2}}, 0, true)
	holdAll(t, p, pair{"a", [2]int8{1, 2}}, pair{"a", [2]int8{2, 1}}, pair{})

	b := table.New[bool](9)
	holdPut(t, b, true, 0, true)
	holdPut(t, b, false, 1, true)
	holdPut(t, b, true, 0, true)
	holdAll(t, b, true, false)

	nothing := table.New[struct{}](9)
	holdPut(t, nothing, struct{}{}, 0, true)
	holdPut(t, nothing, struct{}{}, 0, true)
	holdAll(t, nothing, struct{}{})

	one, two := 1, 1
	ptr := table.New[*int](9)
	holdPut(t, ptr, &one, 0, true)
	holdPut(t, ptr, &two, 1, true)
	holdPut(t, ptr, nil, 2, true)
	holdPut(t, ptr, &one, 0, true)
	holdAll(t, ptr, &one, &two, nil)

	a := table.New[any](9)
	for i, k := range []any{1, int8(1), "1", nil, 1.0, [1]any{1}} {
		holdPut(t, a, k, i, true)
		holdPut(t, a, k, i, true)
	}
	holdAll[any](t, a, 1, int8(1), "1", nil, 1.0, [1]any{1})
}

func TestFloatsAreHeldAgainstEachOtherAsTheyAre(t *testing.T) {
	nought, nan := math.Copysign(0, -1), math.NaN()
	x := table.New[float64](4)
	holdPut(t, x, nought, 0, true)
	holdPut(t, x, 0, 0, true)
	// A NaN is like nothing, itself too: so it is never there, and each is put in anew.
	holdFind(t, x, nan, 0, false)
	holdPut(t, x, nan, 1, true)
	holdPut(t, x, nan, 2, true)
	holdFind(t, x, nan, 0, false)
	holdPut(t, x, 5, 3, true)
	holdPut(t, x, nan, 0, false)
	if got, ok := x.At(2); got == got || !ok || x.Len() != 4 {
		t.Errorf("P3.1: At a NaN: %v, %v of %d", got, ok, x.Len())
	}
	if !x.Cut(1) || x.Len() != 1 {
		t.Errorf("P3.1: Cut of NaNs leaves %d", x.Len())
	}
	holdAll(t, x, 0)
	holdPut(t, x, 5, 1, true)
}

func TestKeysThatCannotBeComparedArePutNowhere(t *testing.T) {
	type deep struct {
		f float64
		k any
	}
	wrong := []any{
		[]int{1}, []int(nil), map[int]int{}, func() {}, [1]any{[]int{}},
		deep{1, []string{}}, deep{math.NaN(), []string{}}, deep{1, deep{2, map[int]int{}}},
	}
	x := table.New[any](3)
	for _, held := range [][]any{nil, {"a"}, {"a", deep{1, 1}}, {"a", deep{1, 1}, 3}} {
		if len(held) > 0 {
			holdPut(t, x, held[len(held)-1], len(held)-1, true)
		}
		for i, k := range wrong {
			if n, ok := x.Put(k); n != 0 || ok {
				t.Errorf("R1: Put of the wrong key %d: %d, %v", i, n, ok)
			}
			if n, ok := x.Find(k); n != 0 || ok {
				t.Errorf("R1: Find of the wrong key %d: %d, %v", i, n, ok)
			}
		}
		holdAll(t, x, held...)
	}
}

func TestAllIsNewMemory(t *testing.T) {
	x := table.New[string](20)
	for i := range 11 {
		x.Put(strconv.Itoa(i))
	}
	all := x.All()
	for i := range all[:cap(all)] {
		all[:cap(all)][i] = "gone"
	}
	want := []string{"0", "1", "2", "3", "4", "5", "6", "7", "8", "9", "10"}
	holdAll(t, x, want...)
	holdFind(t, x, "gone", 0, false)
	all = x.All()
	x.Cut(3)
	x.Put("new")
	if !slices.Equal(all, want) {
		t.Errorf("R4: what All told earlier became %q", all)
	}
}

func TestTablesKnowNothingOfEachOther(t *testing.T) {
	x, y := table.New[string](2), table.New[string](2)
	holdPut(t, x, "a", 0, true)
	holdFind(t, y, "a", 0, false)
	holdPut(t, y, "b", 0, true)
	holdPut(t, x, "c", 1, true)
	holdPut(t, y, "a", 1, true)
	x.Cut(0)
	holdAll(t, y, "b", "a")
	holdAll(t, x)
}
