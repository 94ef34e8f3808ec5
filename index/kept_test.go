package index

import "testing"

// What is dropped is not to be kept either: no later call could tell it.
func TestDropKeepsNothingOfWhatIsGone(t *testing.T) {
	x := New()
	for _, k := range []Key{{Kind: 2, Name: "a"}, {}, {Kind: 2, Name: "b"}, {N: 7}, {Kind: 2, Name: "a"}, {Kind: 1}} {
		x.Add(k)
	}
	for i, want := range []struct{ keys, rows int }{{5, 4}, {4, 4}, {3, 3}, {2, 2}, {1, 1}, {0, 0}} {
		x.Drop(i)
		x.Pick(Key{Kind: 2, Name: "c"})
		x.Pick(Key{})
		if len(x.keys) != want.keys || len(x.rows) != want.rows {
			t.Errorf("behind Drop(%d) there are %d keys in %d rows, not %d in %d", i, len(x.keys), len(x.rows), want.keys, want.rows)
		}
	}
}
