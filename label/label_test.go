package label_test

import (
	"math/bits"
	"slices"
	"strconv"
	"strings"
	"testing"

	"sizar/api"
	"sizar/label"
)

// many makes so many names, all Good.
func many(count int) label.Names {
	n := make(label.Names, count)
	for i := range n {
		n[i] = "n" + strconv.Itoa(i)
	}
	return n
}

// wrongNames are names that may not be, by what is wrong with them.
func wrongNames() map[string]label.Names {
	far := many(api.MaxNames)
	far[api.MaxNames-1] = far[0]
	return map[string]label.Names{
		"nil":                   nil,
		"no names":              {},
		"MaxNames and one":      many(api.MaxNames + 1),
		"no bytes":              {""},
		"no bytes, behind one":  {"a", ""},
		"MaxName and one bytes": {strings.Repeat("a", api.MaxName+1)},
		"one twice":             {"a", "a"},
		"one twice, apart":      {"a", "b", "a"},
		"first and last alike":  far,
		"a great letter":        {"A"},
		"a great letter within": {"aB"},
		"a digit first":         {"1a"},
		"an underscore first":   {"_a"},
		"a blank":               {"a b"},
		"a comma":               {"a,b"},
		"a bracket":             {"a}"},
		"not ASCII":             {"\u00e9"},
		"not ASCII within":      {"a\u00e9"},
	}
}

// texts tells each text that Parse takes of the names, and its label.
func texts(n label.Names) map[string]label.Label {
	all := map[string]label.Label{}
	for l := range label.Label(1) << len(n) {
		var in []string
		for i, name := range n {
			if l>>i&1 == 1 {
				in = append(in, name)
			}
		}
		all["{"+strings.Join(in, ",")+"}"] = l
	}
	return all
}

func TestGoodTakesTheEdges(t *testing.T) {
	for _, n := range []label.Names{
		{"a"},
		{"z"},
		{strings.Repeat("z", api.MaxName)},
		{"a0_9z"},
		{"a_", "a", "a__"},
		many(api.MaxNames),
	} {
		if !label.Good(n) {
			t.Errorf("P1.1: Good(%q) is false", n)
		}
	}
}

func TestGoodRefusesWrongNames(t *testing.T) {
	for what, n := range wrongNames() {
		if label.Good(n) {
			t.Errorf("P1.1: Good of %s is true", what)
		}
	}
}

func TestGoodByEachByte(t *testing.T) {
	const smalls = "abcdefghijklmnopqrstuvwxyz"
	for c := range 256 {
		one := string([]byte{byte(c)})
		if got, want := label.Good(label.Names{one}), strings.Contains(smalls, one); got != want {
			t.Errorf("P1.1: Good of the byte %d alone: %v", c, got)
		}
		for _, name := range []string{"a" + one, "a" + one + "b"} {
			if got, want := label.Good(label.Names{name}), strings.Contains(smalls+"0123456789_", one); got != want {
				t.Errorf("P1.1: Good of the byte %d behind a letter, %q: %v", c, name, got)
			}
		}
	}
}

func TestWrongNamesFitNothing(t *testing.T) {
	for what, n := range wrongNames() {
		for _, l := range []label.Label{0, 1, 1 << 63} {
			if label.Fits(n, l) {
				t.Errorf("P1.1: Fits of %s and %d is true", what, l)
			}
			if s := label.Text(n, l); s != "" {
				t.Errorf("P1.1: Text of %s and %d: %q", what, l, s)
			}
			if all := label.Levels(n, l); len(all) != 0 {
				t.Errorf("P1.1: Levels of %s and %d: %v", what, l, all)
			}
		}
		for _, s := range append([]string{"{}", "{a}", "{" + strings.Join(n, ",") + "}"}, n...) {
			if l, ok := label.Parse(n, s); l != 0 || ok {
				t.Errorf("P1.1: Parse of %s and %q: %d, %v", what, s, l, ok)
			}
		}
		if l := label.Top(n); l != 0 {
			t.Errorf("P1.1: Top of %s: %d", what, l)
		}
	}
}

func TestFitsAndTopByHowManyNames(t *testing.T) {
	for count := 1; count <= api.MaxNames; count++ {
		n := many(count)
		top := label.Top(n)
		if bits.OnesCount64(uint64(top)) != count || bits.Len64(uint64(top)) != count {
			t.Errorf("P1.1: Top of %d names: %d", count, top)
		}
		if !label.Fits(n, 0) || !label.Fits(n, top) {
			t.Errorf("P1.1: Fits of %d names and none or all of them is false", count)
		}
		for i := range 64 {
			if got := label.Fits(n, 1<<i); got != (i < count) {
				t.Errorf("P1.1: Fits of %d names and bit %d: %v", count, i, got)
			}
			if i >= count && label.Fits(n, top|1<<i) {
				t.Errorf("P1.1: Fits of %d names, all of them and bit %d is true", count, i)
			}
		}
	}
}

func TestJoin(t *testing.T) {
	for _, c := range []struct {
		l    []label.Label
		want label.Label
	}{
		{nil, 0},
		{[]label.Label{}, 0},
		{[]label.Label{6}, 6},
		{[]label.Label{1, 2}, 3},
		{[]label.Label{3, 3}, 3},
		{[]label.Label{1, 0, 4, 5, 1 << 63}, 5 | 1<<63},
	} {
		if got := label.Join(c.l...); got != c.want {
			t.Errorf("P1.1: Join(%v): %d", c.l, got)
		}
	}
	if got := label.Join(); got != 0 {
		t.Errorf("P1.1: Join of no arguments: %d", got)
	}
	var each []label.Label
	for i := range 64 {
		each = append(each, 1<<i)
	}
	if got := label.Join(each...); got != 1<<64-1 {
		t.Errorf("P1.1: Join of all bits: %d", got)
	}
}

func TestMeetAndLeqBitByBit(t *testing.T) {
	labels := []label.Label{1 << 63, 1<<64 - 1, 1<<63 | 1}
	for l := range label.Label(16) {
		labels = append(labels, l)
	}
	for _, a := range labels {
		for _, b := range labels {
			both, leq := label.Label(0), true
			for i := range 64 {
				inA, inB := a>>i&1 == 1, b>>i&1 == 1
				if inA && inB {
					both |= 1 << i
				}
				leq = leq && (inB || !inA)
			}
			if got := label.Meet(a, b); got != both {
				t.Errorf("P1.1: Meet(%d, %d): %d", a, b, got)
			}
			if got := label.Leq(a, b); got != leq {
				t.Errorf("P1.1: Leq(%d, %d): %v", a, b, got)
			}
		}
	}
}

func TestText(t *testing.T) {
	last := many(api.MaxNames)
	long := strings.Repeat("z", api.MaxName)
	for _, c := range []struct {
		n    label.Names
		l    label.Label
		want string
	}{
		{label.Names{"a", "b", "c"}, 5, "{a,c}"},
		{label.Names{"a", "b", "c"}, 0, "{}"},
		{label.Names{"c", "b", "a"}, 7, "{c,b,a}"},
		{label.Names{long}, 1, "{" + long + "}"},
		{last, 1 << 63, "{n63}"},
		{last, 1<<64 - 1, "{" + strings.Join(last, ",") + "}"},
		{label.Names{"a", "b", "c"}, 8, ""},
		{label.Names{"a", "b", "c"}, 9, ""},
		{last[:63], 1 << 63, ""},
	} {
		if got := label.Text(c.n, c.l); got != c.want {
			t.Errorf("P1.1: Text(%q, %d): %q", c.n, c.l, got)
		}
	}
}

func TestParseIsTextTurnedRound(t *testing.T) {
	for _, n := range []label.Names{{"a"}, {"b", "a"}, {"a", "ab", "abc", "b", "a_1"}, {"abc", "ab", "a"}} {
		for s, l := range texts(n) {
			if got := label.Text(n, l); got != s {
				t.Errorf("P1.1: Text(%q, %d): %q", n, l, got)
			}
			if got, ok := label.Parse(n, s); got != l || !ok {
				t.Errorf("P1.1: Parse(%q, %q): %d, %v", n, s, got, ok)
			}
		}
	}
	all := many(api.MaxNames)
	if l, ok := label.Parse(all, label.Text(all, 1<<64-1)); l != 1<<64-1 || !ok {
		t.Errorf("P1.1: Parse of all of 64 names: %d, %v", l, ok)
	}
}

func TestParseTakesJustSuchTexts(t *testing.T) {
	n := label.Names{"ab", "a", "b"}
	right := texts(n)
	var tryAll func(s string, room int)
	tryAll = func(s string, room int) {
		want, so := right[s]
		if got, ok := label.Parse(n, s); got != want || ok != so {
			t.Errorf("P1.1: Parse(%q, %q): %d, %v", n, s, got, ok)
		}
		for _, c := range "{},ab" {
			if room > 0 {
				tryAll(s+string(c), room-1)
			}
		}
	}
	tryAll("", 8)
	for _, s := range []string{"{ab,a,b", "ab,a,b}", "{ab, a}", " {a}", "{a} ", "{a}\n", "{A}", "{c}", "{a\x00}", "{ab,a,b,}", "{ab,a,b,ab}", "{ab,b,a}", "{ab;a}", "(a)", "0", "\xff"} {
		if l, ok := label.Parse(n, s); l != 0 || ok {
			t.Errorf("P1.1: Parse(%q, %q): %d, %v", n, s, l, ok)
		}
	}
}

func TestLevels(t *testing.T) {
	n := many(10)
	for l := range label.Label(1 << 10) {
		var want []label.Label
		for at := label.Label(0); at <= l && bits.OnesCount64(uint64(l)) <= 8; at++ {
			if at|l == l {
				want = append(want, at)
			}
		}
		if got := label.Levels(n, l); !slices.Equal(got, want) {
			t.Errorf("P1.1: Levels of %d: %v", l, got)
		}
	}
	for _, l := range []label.Label{1 << 10, 1<<10 | 1, 1 << 63} {
		if got := label.Levels(n, l); len(got) != 0 {
			t.Errorf("P1.1: Levels of %d, that does not fit: %v", l, got)
		}
	}
}

func TestLevelsOfHighBits(t *testing.T) {
	n := many(api.MaxNames)
	if got := label.Levels(n, 1<<63|1); !slices.Equal(got, []label.Label{0, 1, 1 << 63, 1<<63 | 1}) {
		t.Errorf("P1.1: Levels of the first and the last name: %v", got)
	}
	l := label.Label(0xff << 56)
	got := label.Levels(n, l)
	if len(got) != 256 || got[0] != 0 || got[255] != l || !slices.IsSorted(got) {
		t.Errorf("P1.1: Levels of the last 8 of 64 names: %v", got)
	}
	for _, l := range []label.Label{0x1ff << 55, 1<<64 - 1} {
		if got := label.Levels(n, l); len(got) != 0 {
			t.Errorf("P1.1: Levels of more than 8 bits: %d of them", len(got))
		}
	}
}

func TestNothingHandedInIsChangedOrKept(t *testing.T) {
	room := label.Names{"a", "b", "c", "spare", "room"}
	n := room[:3]
	label.Good(n)
	label.Fits(n, 7)
	label.Text(n, 7)
	label.Parse(n, "{a,b,c}")
	label.Top(n)
	label.Levels(n, 7)
	if !slices.Equal(room, label.Names{"a", "b", "c", "spare", "room"}) {
		t.Errorf("R4: the names became %q", room)
	}
	l := []label.Label{1, 2, 4, 8}
	label.Join(l[:2]...)
	if !slices.Equal(l, []label.Label{1, 2, 4, 8}) {
		t.Errorf("R4: Join's labels became %v", l)
	}
	n[0], n[1] = n[1], n[0]
	if s := label.Text(n, 1); s != "{b}" {
		t.Errorf("R5: Text hangs on names of an earlier call: %q", s)
	}
}

func TestLevelsAnswersNewMemory(t *testing.T) {
	n := many(3)
	one := label.Levels(n, 7)
	for i := range one[:cap(one)] {
		one[:cap(one)][i] = 99
	}
	if two := label.Levels(n, 7); !slices.Equal(two, []label.Label{0, 1, 2, 3, 4, 5, 6, 7}) {
		t.Errorf("R4: Levels, another answer written over: %v", two)
	}
}
