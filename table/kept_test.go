package table

import (
	"math"
	"testing"
)

// What is cut is not to be kept either: no later call could tell it.
func TestCutKeepsNothingOfWhatIsGone(t *testing.T) {
	x := New[any](9)
	for _, k := range []any{"a", math.NaN(), &struct{ n int }{1}, math.NaN(), "b"} {
		x.Put(k)
	}
	x.Cut(1)
	for i, k := range x.keys[:cap(x.keys)] {
		if i > 0 && k != nil {
			t.Errorf("the room of number %d still has %v", i, k)
		}
	}
	if len(x.numbers) != 1 {
		t.Errorf("the map has %d keys of 1", len(x.numbers))
	}
}
