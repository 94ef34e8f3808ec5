package stack_test

import (
	"math"
	"slices"
	"strconv"
	"testing"

	"sizar/stack"
)

// holdOne holds one that was told against the one that it should be.
func holdOne[T comparable](t *testing.T, call string, got T, ok bool, want T, wantOk bool) {
	t.Helper()
	if got != want || ok != wantOk {
		t.Errorf("P4.1: %s: %v, %v; not %v, %v", call, got, ok, want, wantOk)
	}
}

// holdAt holds what At answers against what it should.
func holdAt[T comparable](t *testing.T, s *stack.Stack[T], i int, want T, wantOk bool) {
	t.Helper()
	got, ok := s.At(i)
	holdOne(t, "At("+strconv.Itoa(i)+")", got, ok, want, wantOk)
}

// holdTop holds what Top answers against what it should.
func holdTop[T comparable](t *testing.T, s *stack.Stack[T], want T, wantOk bool) {
	t.Helper()
	got, ok := s.Top()
	holdOne(t, "Top", got, ok, want, wantOk)
}

// holdPop holds what Pop answers against what it should.
func holdPop[T comparable](t *testing.T, s *stack.Stack[T], want T, wantOk bool) {
	t.Helper()
	got, ok := s.Pop()
	holdOne(t, "Pop", got, ok, want, wantOk)
}

// holdPush holds what Push answers against what it should.
func holdPush[T comparable](t *testing.T, s *stack.Stack[T], want bool, v ...T) {
	t.Helper()
	if got := s.Push(v...); got != want {
		t.Errorf("P4.1: Push(%v) on %v: %v", v, s.All(), got)
	}
}

// holdUndo holds what an Undo that may be answers against what it should.
func holdUndo[T comparable](t *testing.T, s *stack.Stack[T], mark int, want ...T) {
	t.Helper()
	if got, ok := s.Undo(mark); !slices.Equal(got, want) || !ok {
		t.Errorf("P4.1: Undo(%d): %v, %v; not %v, true", mark, got, ok, want)
	}
}

// holdNoUndo holds an Undo that may not be against the nothing that it should answer.
func holdNoUndo[T comparable](t *testing.T, s *stack.Stack[T], mark int) {
	t.Helper()
	if got, ok := s.Undo(mark); len(got) != 0 || ok {
		t.Errorf("P4.1: Undo(%d) of %d: %v, %v", mark, s.Mark(), got, ok)
	}
}

// holdAll holds all that a stack tells against those that it should have, without a change to it.
func holdAll[T comparable](t *testing.T, s *stack.Stack[T], want ...T) {
	t.Helper()
	if got := s.All(); !slices.Equal(got, want) {
		t.Errorf("P4.1: All: %v, not %v", got, want)
	}
	if got := s.Mark(); got != len(want) {
		t.Errorf("P4.1: Mark: %d, not %d", got, len(want))
	}
	for i, v := range want {
		holdAt(t, s, i, v, true)
	}
	var none T
	for _, i := range []int{-1, len(want), len(want) + 1, math.MaxInt, math.MinInt} {
		holdAt(t, s, i, none, false)
	}
	if len(want) == 0 {
		holdTop(t, s, none, false)
	} else {
		holdTop(t, s, want[len(want)-1], true)
	}
}

func TestOneOnTopOfAnother(t *testing.T) {
	s := stack.New[string](9)
	holdAll(t, s)
	holdPush(t, s, true, "a")
	holdAll(t, s, "a")
	holdPush(t, s, true, "b", "c")
	holdPush(t, s, true, "a", "", "")
	holdAll(t, s, "a", "b", "c", "a", "", "")
	holdPop(t, s, "", true)
	holdPop(t, s, "", true)
	holdPop(t, s, "a", true)
	holdAll(t, s, "a", "b", "c")
	holdPush(t, s, true, "d")
	holdAll(t, s, "a", "b", "c", "d")
}

func TestNoneThere(t *testing.T) {
	s := stack.New[int](3)
	for range 2 {
		holdPop(t, s, 0, false)
		holdAll(t, s)
	}
	holdPush(t, s, true, 0)
	holdAll(t, s, 0)
	holdPop(t, s, 0, true)
	holdPop(t, s, 0, false)
	holdAll(t, s)
	holdPush(t, s, true, 5)
	holdAll(t, s, 5)
}

func TestAllOfThemOrNone(t *testing.T) {
	s := stack.New[int](4)
	holdPush(t, s, false, 1, 2, 3, 4, 5)
	holdAll(t, s)
	holdPush(t, s, true, 1, 2, 3)
	holdPush(t, s, false, 4, 5)
	holdAll(t, s, 1, 2, 3)
	holdPush(t, s, true, 4)
	holdPush(t, s, false, 5)
	holdPush(t, s, false, 5, 6, 7, 8, 9)
	holdAll(t, s, 1, 2, 3, 4)
	holdPop(t, s, 4, true)
	holdPush(t, s, false, 5, 6)
	holdPush(t, s, true, 5)
	holdUndo(t, s, 1, 5, 3, 2)
	holdPush(t, s, false, 6, 7, 8, 9)
	holdPush(t, s, true, 6, 7, 8)
	holdAll(t, s, 1, 6, 7, 8)
	holdUndo(t, s, 0, 8, 7, 6, 1)
	holdPush(t, s, true, 1, 2, 3, 4)
	holdAll(t, s, 1, 2, 3, 4)
}

func TestThereIsAlwaysRoomForNone(t *testing.T) {
	s := stack.New[int](2)
	for _, held := range [][]int{nil, {7}, {7, 8}} {
		if len(held) > 0 {
			holdPush(t, s, true, held[len(held)-1])
		}
		holdPush(t, s, true)
		holdPush(t, s, true, []int{}...)
		holdAll(t, s, held...)
	}
}

func TestHowManyThereIsRoomFor(t *testing.T) {
	for _, c := range []struct{ most, want int }{
		{math.MinInt, 1},
		{-65536, 1},
		{-1, 1},
		{0, 1},
		{1, 1},
		{2, 2},
		{300, 300},
		{65535, 65535},
		{65536, 65536},
		{65537, 65536},
		{1 << 40, 65536},
		{math.MaxInt, 65536},
	} {
		one, all := stack.New[int](c.most), stack.New[int](c.most)
		for i := range c.want + 3 {
			if got := one.Push(-i); got != (i < c.want) {
				t.Fatalf("P4.1: New(%d), the one behind %d: %v", c.most, i, got)
			}
		}
		if all.Push(make([]int, c.want+1)...) || all.Mark() != 0 {
			t.Errorf("P4.1: New(%d) takes %d at once", c.most, all.Mark())
		}
		if !all.Push(make([]int, c.want)...) || all.Push(0) {
			t.Errorf("P4.1: New(%d) does not take just %d at once", c.most, c.want)
		}
		for _, s := range []*stack.Stack[int]{one, all} {
			if s.Mark() != c.want || len(s.All()) != c.want {
				t.Errorf("P4.1: New(%d) has room for %d, not %d", c.most, s.Mark(), c.want)
			}
		}
		holdTop(t, one, 1-c.want, true)
		holdAt(t, one, c.want-1, 1-c.want, true)
		holdAt(t, one, c.want, 0, false)
	}
}

func TestTheExample(t *testing.T) {
	s := stack.New[int](3)
	holdPush(t, s, true, 1, 2, 3)
	holdUndo(t, s, 1, 3, 2)
	holdAll(t, s, 1)
}

func TestUndo(t *testing.T) {
	want := []string{"d", "a", "c", "a", "b"}
	for mark := -2; mark <= len(want)+2; mark++ {
		s := stack.New[string](6)
		holdPush(t, s, true, want...)
		if mark < 0 || mark > len(want) {
			holdNoUndo(t, s, mark)
			holdAll(t, s, want...)
			continue
		}
		gone := slices.Clone(want[mark:])
		slices.Reverse(gone)
		holdUndo(t, s, mark, gone...)
		holdAll(t, s, want[:mark]...)
		for _, wrong := range []int{mark + 1, len(want) + 1, math.MaxInt, -1, math.MinInt} {
			holdNoUndo(t, s, wrong)
		}
		holdUndo(t, s, mark)
		holdAll(t, s, want[:mark]...)
		holdPush(t, s, true, "x")
		holdAll(t, s, append(slices.Clone(want[:mark]), "x")...)
	}
}

func TestUndoOfNone(t *testing.T) {
	s := stack.New[int](1)
	holdUndo(t, s, 0)
	for _, wrong := range []int{1, -1, math.MaxInt, math.MinInt} {
		holdNoUndo(t, s, wrong)
	}
	holdAll(t, s)
	holdPush(t, s, true, 3)
	holdUndo(t, s, 1)
	holdNoUndo(t, s, 2)
	holdUndo(t, s, 0, 3)
	holdAll(t, s)
}

func TestBackToMarks(t *testing.T) {
	s := stack.New[int](9)
	holdPush(t, s, true, 1)
	outer := s.Mark()
	holdPush(t, s, true, 2, 3)
	inner := s.Mark()
	holdPush(t, s, true, 4)
	holdUndo(t, s, inner, 4)
	holdPush(t, s, true, 5, 6)
	holdAll(t, s, 1, 2, 3, 5, 6)
	holdUndo(t, s, outer, 6, 5, 3, 2)
	holdNoUndo(t, s, inner)
	holdAll(t, s, 1)

	// A mark is a number alone: what was pushed anew up to it is as good as what was there.
	holdPush(t, s, true, 7, 8, 9)
	holdUndo(t, s, inner, 9)
	holdAll(t, s, 1, 7, 8)
}

// slow is a stack whose every change is written out one by one.
type slow struct {
	most  int
	items []int
}

// push does what Push should.
func (s *slow) push(v []int) bool {
	if len(s.items)+len(v) > s.most {
		return false
	}
	for _, n := range v {
		s.items = append(slices.Clone(s.items), n)
	}
	return true
}

// pop does what Pop should.
func (s *slow) pop() (int, bool) {
	if len(s.items) == 0 {
		return 0, false
	}
	last := s.items[len(s.items)-1]
	s.items = slices.Clone(s.items[:len(s.items)-1])
	return last, true
}

// undo does what Undo should.
func (s *slow) undo(mark int) ([]int, bool) {
	if mark < 0 || mark > len(s.items) {
		return nil, false
	}
	var gone []int
	for len(s.items) > mark {
		last, _ := s.pop()
		gone = append(gone, last)
	}
	return gone, true
}

func TestManyCallsAgainstASlowStack(t *testing.T) {
	next := uint32(1)
	roll := func(n int) int {
		next = next*1664525 + 1013904223
		return int(next>>16) % n
	}
	for most := 1; most <= 20; most++ {
		x, s := stack.New[int](most), &slow{most: most}
		for range 600 {
			switch roll(6) {
			case 0:
				mark := roll(most+4) - 2
				want, wantOk := s.undo(mark)
				if got, ok := x.Undo(mark); !slices.Equal(got, want) || ok != wantOk {
					t.Errorf("P4.1: Undo(%d): %v, %v; not %v, %v", mark, got, ok, want, wantOk)
				}
			case 1, 2:
				want, wantOk := s.pop()
				holdPop(t, x, want, wantOk)
			default:
				v := make([]int, roll(5))
				for i := range v {
					v[i] = roll(100)
				}
				holdPush(t, x, s.push(v), v...)
			}
			holdAll(t, x, s.items...)
		}
	}
}

func TestManyKinds(t *testing.T) {
	type pair struct {
		name string
		n    [2]int8
	}
	p := stack.New[pair](4)
	holdPush(t, p, true, pair{"a", [2]int8{1, 2}}, pair{})
	holdAll(t, p, pair{"a", [2]int8{1, 2}}, pair{})
	holdUndo(t, p, 0, pair{}, pair{"a", [2]int8{1, 2}})
	holdPop(t, p, pair{}, false)

	one, two := 1, 1
	ptr := stack.New[*int](9)
	holdPush(t, ptr, true, &one, nil, &two, &one)
	holdAll(t, ptr, &one, nil, &two, &one)
	holdUndo(t, ptr, 1, &one, &two, nil)
	holdPop(t, ptr, &one, true)
	holdPop(t, ptr, nil, false)

	a := stack.New[any](9)
	holdPush[any](t, a, true, 1, "1", nil, int8(1))
	holdAll[any](t, a, 1, "1", nil, int8(1))
	holdUndo[any](t, a, 2, int8(1), nil)

	// What can't be compared may be pushed all the same.
	calls := stack.New[func() int](2)
	if !calls.Push(func() int { return 1 }, func() int { return 2 }) || calls.Push(nil) {
		t.Errorf("P4.1: Push of functions")
	}
	if gone, ok := calls.Undo(0); !ok || len(gone) != 2 || gone[0]() != 2 || gone[1]() != 1 {
		t.Errorf("P4.1: Undo of functions: %d, %v", len(gone), ok)
	}
	if f, ok := calls.Pop(); f != nil || ok {
		t.Errorf("P4.1: Pop of no functions: %v", ok)
	}
}

func TestSoManyThingsWithoutSize(t *testing.T) {
	type nothing struct{}
	s := stack.New[nothing](65536)
	holdPush(t, s, true, nothing{})
	for _, many := range []int{65536, math.MaxInt} {
		if s.Push(make([]nothing, many)...) || s.Mark() != 1 {
			t.Errorf("P4.1: Push of %d: there are %d", many, s.Mark())
		}
	}
	if !s.Push(make([]nothing, 65535)...) || s.Mark() != 65536 {
		t.Errorf("P4.1: Push of 65535: there are %d", s.Mark())
	}
}

func TestWhatIsHandedInIsNeitherKeptNorChanged(t *testing.T) {
	room := []string{"a", "b", "kept", "too"}
	s := stack.New[string](9)
	holdPush(t, s, true, room[:2]...)
	room[0], room[1] = "gone", "gone"
	holdAll(t, s, "a", "b")
	room[0], room[1] = "c", "d"
	holdPush(t, s, true, room[:2]...)
	holdPush(t, s, true, "e", "f")
	holdUndo(t, s, 0, "f", "e", "d", "c", "b", "a")
	holdPush(t, s, true, "g", "h", "i")
	if want := []string{"c", "d", "kept", "too"}; !slices.Equal(room, want) {
		t.Errorf("R4: what was handed in became %q", room)
	}
}

func TestWhatIsAnsweredIsNewMemory(t *testing.T) {
	s := stack.New[int](20)
	holdPush(t, s, true, 0, 1, 2, 3, 4, 5, 6, 7, 8, 9, 10)
	all := s.All()
	for i := range all[:cap(all)] {
		all[:cap(all)][i] = -1
	}
	holdAll(t, s, 0, 1, 2, 3, 4, 5, 6, 7, 8, 9, 10)
	all = s.All()
	gone, _ := s.Undo(3)
	holdPush(t, s, true, 11, 12, 13, 14, 15, 16, 17, 18, 19, 20)
	if want := []int{0, 1, 2, 3, 4, 5, 6, 7, 8, 9, 10}; !slices.Equal(all, want) {
		t.Errorf("R4: what All told earlier became %d", all)
	}
	if want := []int{10, 9, 8, 7, 6, 5, 4, 3}; !slices.Equal(gone, want) {
		t.Errorf("R4: what Undo told earlier became %d", gone)
	}
	for i := range gone[:cap(gone)] {
		gone[:cap(gone)][i] = -1
	}
	holdAll(t, s, 0, 1, 2, 11, 12, 13, 14, 15, 16, 17, 18, 19, 20)
	none, _ := s.Undo(s.Mark())
	for i := range none[:cap(none)] {
		none[:cap(none)][i] = -1
	}
	holdAll(t, s, 0, 1, 2, 11, 12, 13, 14, 15, 16, 17, 18, 19, 20)
}

func TestStacksKnowNothingOfEachOther(t *testing.T) {
	x, y := stack.New[string](2), stack.New[string](2)
	holdPush(t, x, true, "a")
	holdAll(t, y)
	holdPush(t, y, true, x.All()...)
	holdPush(t, y, true, "b")
	holdPush(t, x, true, "c")
	holdUndo(t, x, 0, "c", "a")
	holdAll(t, y, "a", "b")
	holdAll(t, x)
}
