package stack

import "testing"

// holdRoom tells whether the room above the top of a stack holds on to anything.
func holdRoom(t *testing.T, s *Stack[*int], count int) {
	t.Helper()
	if len(s.items) != count {
		t.Errorf("there are %d, not %d", len(s.items), count)
	}
	for i, p := range s.items[:cap(s.items)] {
		if (p != nil) != (i < count) {
			t.Errorf("the room of %d of %d has %v", i, count, p)
		}
	}
}

// What is taken off is not to be kept either: no later call could tell it.
func TestNothingIsKeptOfWhatIsGone(t *testing.T) {
	s := New[*int](9)
	n := 1
	for range 5 {
		s.Push(&n)
	}
	s.Pop()
	holdRoom(t, s, 4)
	s.Undo(1)
	holdRoom(t, s, 1)
	s.Push(&n, &n)
	s.Undo(3)
	s.Undo(4)
	holdRoom(t, s, 3)
	s.Undo(0)
	holdRoom(t, s, 0)
}
