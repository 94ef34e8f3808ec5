package op_test

import (
	"math"
	"slices"
	"strconv"
	"strings"
	"testing"

	"sizar/api"
	"sizar/op"
)

// The kinds of those between, of those ahead, and some that are no kinds.
var (
	between = []string{"xfx", "xfy", "yfx"}
	ahead   = []string{"fy", "fx"}
	neither = []string{"", "f", "x", "y", "xf", "yf", "yfy", "xfx ", " fy", "XFX", "Fy", "fyx", "ffy", "xxfx", "\x00fy", "ф"}
)

// table makes a table of operators, each written as its name, kind and level.
func table(t *testing.T, words ...string) op.Table {
	t.Helper()
	var l []op.Op
	for i := 0; i < len(words); i += 3 {
		l = append(l, operator(t, words[i], words[i+1], words[i+2]))
	}
	return op.Table{L: l}
}

// operator makes an operator.
func operator(t *testing.T, name, kind, level string) op.Op {
	t.Helper()
	n, err := strconv.Atoi(level)
	if err != nil {
		t.Fatalf("the test has a level %q", level)
	}
	return op.Op{Name: name, Kind: kind, Level: n}
}

// many makes a table of so many operators between.
func many(count int) op.Table {
	l := make([]op.Op, count)
	for i := range l {
		l[i] = op.Op{Name: "n" + strconv.Itoa(i), Kind: between[i%3], Level: 1 + i}
	}
	return op.Table{L: l}
}

// holdGood holds what Good answers against what it should.
func holdGood(t *testing.T, x op.Table, want bool) {
	t.Helper()
	if got := op.Good(x); got != want {
		t.Errorf("P5.1: Good(%v): %v", x, got)
	}
}

// holdFound holds what In and Pre answer against the levels that they should find, 0 for none.
func holdFound(t *testing.T, x op.Table, name string, in, pre int) {
	t.Helper()
	got, ok := op.In(x, name)
	holdOne(t, "In", name, got, ok, in, between)
	got, ok = op.Pre(x, name)
	holdOne(t, "Pre", name, got, ok, pre, ahead)
}

// holdOne holds one that was found against what it should be.
func holdOne(t *testing.T, call, name string, got op.Op, ok bool, level int, kinds []string) {
	t.Helper()
	if ok != (level != 0) || !ok && got != (op.Op{}) {
		t.Errorf("P5.1: %s of %q: %v, %v", call, name, got, ok)
	}
	if ok && (got.Name != name || got.Level != level || !slices.Contains(kinds, got.Kind)) {
		t.Errorf("P5.1: %s of %q: %v, not of level %d", call, name, got, level)
	}
}

// holdAdd holds what Add answers against the table that it should, and that the one handed in stays.
func holdAdd(t *testing.T, x op.Table, o op.Op, want op.Table) {
	t.Helper()
	held := slices.Clone(x.L)
	got, e := op.Add(x, o)
	if e != api.OK || !slices.Equal(got.L, want.L) {
		t.Errorf("P5.1: Add(%v, %v): %v, %d; not %v", x, o, got, e, want)
	}
	if !slices.Equal(x.L, held) {
		t.Errorf("R4: Add(%v, %v) leaves %v", held, o, x)
	}
}

// holdRefused holds an Add that may not be against its error.
func holdRefused(t *testing.T, x op.Table, o op.Op, want api.Errno) {
	t.Helper()
	held := slices.Clone(x.L)
	got, e := op.Add(x, o)
	if e != want || len(got.L) != 0 {
		t.Errorf("P5.1: Add(%v, %v): %v, %d; not %d", x, o, got, e, want)
	}
	if !slices.Equal(x.L, held) {
		t.Errorf("R3: Add(%v, %v) leaves %v", held, o, x)
	}
}

func TestPlain(t *testing.T) {
	want := table(t,
		":-", "xfx", "1200", ";", "xfy", "1100", "->", "xfy", "1050", ",", "xfy", "1000", "\\+", "fy", "900",
		"=", "xfx", "700", "\\=", "xfx", "700", "==", "xfx", "700", "\\==", "xfx", "700",
		"@<", "xfx", "700", "@>", "xfx", "700", "@=<", "xfx", "700", "@>=", "xfx", "700", "=..", "xfx", "700",
		"is", "xfx", "700", "=:=", "xfx", "700", "=\\=", "xfx", "700",
		"<", "xfx", "700", ">", "xfx", "700", "=<", "xfx", "700", ">=", "xfx", "700",
		"+", "yfx", "500", "-", "yfx", "500", "/\\", "yfx", "500", "\\/", "yfx", "500", "xor", "yfx", "500",
		"*", "yfx", "400", "//", "yfx", "400", "mod", "yfx", "400", "rem", "yfx", "400", ">>", "yfx", "400", "<<", "yfx", "400",
		"^", "xfy", "200", "-", "fy", "200", "\\", "fy", "200",
	)
	got := op.Plain()
	if !slices.Equal(got.L, want.L) {
		t.Errorf("P5.1: Plain: %v, not %v", got, want)
	}
	holdGood(t, got, true)
}

func TestPlainIsNewEachTime(t *testing.T) {
	one, two := op.Plain(), op.Plain()
	_ = append(one.L, op.Op{Name: "x", Kind: "fy", Level: 1})
	for i := range one.L {
		one.L[i] = op.Op{}
	}
	if three := op.Plain(); !slices.Equal(two.L, three.L) || two.L[0].Name != ":-" {
		t.Errorf("R4: Plain: %v, %v", two, three)
	}
}

func TestFind(t *testing.T) {
	x := op.Plain()
	for _, c := range []struct {
		name    string
		in, pre int
	}{
		{":-", 1200, 0}, {";", 1100, 0}, {"->", 1050, 0}, {",", 1000, 0}, {"\\+", 0, 900}, {"=", 700, 0}, {"is", 700, 0},
		{">=", 700, 0}, {"+", 500, 0}, {"-", 500, 200}, {"xor", 500, 0}, {"<<", 400, 0}, {"^", 200, 0}, {"\\", 0, 200},
		{"", 0, 0}, {"I", 0, 0}, {"IS", 0, 0}, {" is", 0, 0}, {"is ", 0, 0}, {"-\x00", 0, 0}, {"foo", 0, 0}, {"|", 0, 0}, {"[]", 0, 0}, {"{}", 0, 0},
		{strings.Repeat("-", 65), 0, 0}, {"xfx", 0, 0},
	} {
		holdFound(t, x, c.name, c.in, c.pre)
	}
	for _, name := range []string{"", ",", "-", "foo"} {
		holdFound(t, op.Table{}, name, 0, 0)
	}
}

func TestFindTellsTheWholeOperator(t *testing.T) {
	x := table(t, "a", "fx", "3", "b", "xfx", "7", "a", "yfx", "5", "b", "fy", "9", "c", "xfy", "1200", "d", "fx", "1")
	for _, o := range x.L {
		in, inOk := op.In(x, o.Name)
		pre, preOk := op.Pre(x, o.Name)
		if slices.Contains(between, o.Kind) && (in != o || !inOk) || slices.Contains(ahead, o.Kind) && (pre != o || !preOk) {
			t.Errorf("P5.1: of %v: In %v, Pre %v", o, in, pre)
		}
	}
	holdFound(t, x, "c", 1200, 0)
	holdFound(t, x, "d", 0, 1)
}

func TestTheExample(t *testing.T) {
	o, ok := op.In(op.Plain(), "+")
	if o != (op.Op{Name: "+", Kind: "yfx", Level: 500}) || !ok {
		t.Errorf("P5.1: In(Plain, +): %v, %v", o, ok)
	}
	if left, right := op.Sides(o); left != 500 || right != 499 {
		t.Errorf("P5.1: Sides of it: %d, %d", left, right)
	}
}

func TestGoodOfOneOperator(t *testing.T) {
	long := strings.Repeat("ab", 32)
	for _, name := range []string{"a", "A", "a b", "(", ")", "[", "]", "{", "}", "||", ",,", ", ", "[] ", "{ }", "[[]]", "\x00", "\xff", "é", "'", ".", "!", "fx", long} {
		for _, kind := range slices.Concat(between, ahead) {
			for _, level := range []int{1, 2, 999, 1000, 1001, 1199, 1200} {
				holdGood(t, op.Table{L: []op.Op{{Name: name, Kind: kind, Level: level}}}, true)
			}
			for _, level := range []int{0, -1, 1201, math.MinInt, math.MaxInt, 1 << 32, 1<<32 + 1} {
				holdGood(t, op.Table{L: []op.Op{{Name: name, Kind: kind, Level: level}}}, false)
			}
		}
		for _, kind := range neither {
			holdGood(t, op.Table{L: []op.Op{{Name: name, Kind: kind, Level: 5}}}, false)
		}
	}
	for _, name := range []string{"", "|", "[]", "{}", long + "a", long + long, strings.Repeat("é", 33)} {
		for _, kind := range slices.Concat(between, ahead, neither) {
			holdGood(t, op.Table{L: []op.Op{{Name: name, Kind: kind, Level: 1000}}}, false)
		}
	}
}

func TestGoodOfTheComma(t *testing.T) {
	for _, kind := range slices.Concat(between, ahead, neither) {
		for _, level := range []int{-1, 0, 1, 999, 1000, 1001, 1200, 1201} {
			x := op.Table{L: []op.Op{{Name: ",", Kind: kind, Level: level}}}
			holdGood(t, x, kind == "xfy" && level == 1000)
		}
	}
	holdGood(t, table(t, ",", "xfy", "1000", "a", "fy", "1", ",", "xfy", "1000"), false)
	holdGood(t, table(t, ",", "xfy", "1000", "a", "fy", "1", ",", "fy", "1000"), false)
}

func TestGoodOfNamesThatComeTwice(t *testing.T) {
	holdGood(t, op.Table{}, true)
	holdGood(t, op.Table{L: []op.Op{}}, true)
	for _, one := range slices.Concat(between, ahead) {
		for _, two := range slices.Concat(between, ahead) {
			x := op.Table{L: []op.Op{{Name: "a", Kind: one, Level: 5}, {Name: "b", Kind: "xfx", Level: 5}, {Name: "b", Kind: "fx", Level: 5}, {Name: "a", Kind: two, Level: 6}}}
			holdGood(t, x, slices.Contains(ahead, one) != slices.Contains(ahead, two))
		}
	}
	for _, third := range []string{"xfx", "fy"} {
		holdGood(t, table(t, "a", "fx", "5", "a", "xfy", "5", "a", third, "5"), false)
	}
}

func TestGoodOfHowMany(t *testing.T) {
	for _, count := range []int{1, 33, 127, 128} {
		holdGood(t, many(count), true)
		x := many(count)
		x.L[count-1].Kind = "?"
		holdGood(t, x, false)
		x = many(count)
		x.L[count-1].Kind, x.L[0].Level = "fx", 0
		holdGood(t, x, false)
	}
	for _, count := range []int{129, 130, 256, 1000} {
		holdGood(t, many(count), false)
	}
	twice := many(128)
	twice.L[127].Name = twice.L[0].Name
	holdGood(t, twice, false)

	// Those ahead and those between are counted together.
	both := many(64)
	for _, o := range many(64).L {
		both.L = append(both.L, op.Op{Name: o.Name, Kind: "fy", Level: 1})
	}
	holdGood(t, both, true)
	both.L = append(both.L, op.Op{Name: "z", Kind: "fy", Level: 1})
	holdGood(t, both, false)
}

// notGood are tables in which a is ahead and between, but which may not be.
func notGood(t *testing.T) []op.Table {
	t.Helper()
	good := table(t, "a", "fy", "3", "a", "xfx", "4")
	holdGood(t, good, true)
	var some []op.Table
	for _, wrong := range []op.Op{
		{}, {Name: "b", Kind: "xf", Level: 5}, {Name: "b", Kind: "fx"}, {Name: "b", Kind: "fx", Level: 1201},
		{Name: "", Kind: "fx", Level: 5}, {Name: "|", Kind: "xfy", Level: 1100}, {Name: ",", Kind: "xfy", Level: 999},
		{Name: "a", Kind: "fx", Level: 5}, {Name: "a", Kind: "yfx", Level: 5}, {Name: strings.Repeat("b", 65), Kind: "fx", Level: 5},
	} {
		some = append(some, op.Table{L: append(slices.Clone(good.L), wrong)}, op.Table{L: append([]op.Op{wrong}, good.L...)})
	}
	return append(some, op.Table{L: append(many(127).L, good.L...)})
}

func TestATableThatIsNotGood(t *testing.T) {
	for _, x := range notGood(t) {
		holdGood(t, x, false)
		holdFound(t, x, "a", 0, 0)
		holdFound(t, x, "c", 0, 0)
		for _, o := range []op.Op{
			{Name: "c", Kind: "fy", Level: 5}, {Name: "a", Kind: "fy"}, {Name: "c", Kind: "fy"}, {},
			{Name: ",", Kind: "xfy", Level: 1000}, {Name: ","}, {Name: "c", Kind: "?", Level: 7},
		} {
			holdRefused(t, x, o, api.EARG)
		}
	}
}

func TestAddBehindTheOthers(t *testing.T) {
	for _, x := range []op.Table{{}, op.Plain(), many(1), many(126), many(127)} {
		for _, o := range []op.Op{{Name: "a", Kind: "fy", Level: 1}, {Name: "n0", Kind: "fx", Level: 1200}, {Name: "a", Kind: "xfx", Level: 7}, {Name: strings.Repeat("a", 64), Kind: "yfx", Level: 1200}, {Name: ",,", Kind: "xfy", Level: 1000}} {
			want := op.Table{L: append(slices.Clone(x.L), o)}
			holdAdd(t, x, o, want)
			holdGood(t, want, true)
		}
	}
}

func TestAddInPlace(t *testing.T) {
	x := table(t, "a", "fx", "3", "b", "xfx", "7", "a", "yfx", "5", "b", "fy", "9")
	for at, held := range x.L {
		kinds := between
		if slices.Contains(ahead, held.Kind) {
			kinds = ahead
		}
		for _, kind := range kinds {
			for _, level := range []int{1, 500, 1200, held.Level} {
				o := op.Op{Name: held.Name, Kind: kind, Level: level}
				want := op.Table{L: slices.Clone(x.L)}
				want.L[at] = o
				holdAdd(t, x, o, want)
			}
			o := op.Op{Name: held.Name, Kind: kind}
			want := op.Table{L: slices.Delete(slices.Clone(x.L), at, at+1)}
			holdAdd(t, x, o, want)
			holdRefused(t, want, o, api.ENONE)
		}
	}
	holdAdd(t, table(t, "a", "fx", "3"), op.Op{Name: "a", Kind: "fy"}, op.Table{})
}

func TestAddOfNoneToTakeOut(t *testing.T) {
	x := table(t, "a", "fx", "3", "b", "xfx", "7")
	for _, o := range []op.Op{{Name: "a", Kind: "xfx"}, {Name: "b", Kind: "fx"}, {Name: "c", Kind: "fx"}, {Name: "A", Kind: "fx"}, {Name: strings.Repeat("a", 64), Kind: "yfx"}} {
		holdRefused(t, x, o, api.ENONE)
		holdRefused(t, op.Table{}, o, api.ENONE)
		holdRefused(t, many(128), o, api.ENONE)
	}
}

func TestAddOfTheComma(t *testing.T) {
	for _, x := range []op.Table{{}, op.Plain(), many(128)} {
		for _, kind := range slices.Concat(between, ahead, neither) {
			for _, level := range []int{math.MinInt, -1, 0, 1, 1000, 1200, 1201, math.MaxInt} {
				holdRefused(t, x, op.Op{Name: ",", Kind: kind, Level: level}, api.EPERM)
			}
		}
	}
}

func TestAddOfWhatMayNotBe(t *testing.T) {
	for _, x := range []op.Table{{}, op.Plain(), many(128)} {
		for _, level := range []int{0, 1, 200, 1000, 1200} {
			for _, name := range []string{"", "|", "[]", "{}", strings.Repeat("a", 65)} {
				for _, kind := range slices.Concat(between, ahead, neither) {
					holdRefused(t, x, op.Op{Name: name, Kind: kind, Level: level}, api.EARG)
				}
			}
			for _, kind := range neither {
				holdRefused(t, x, op.Op{Name: "-", Kind: kind, Level: level}, api.EARG)
				holdRefused(t, x, op.Op{Name: "a", Kind: kind, Level: level}, api.EARG)
			}
		}
		for _, level := range []int{math.MinInt, -1200, -1, 1201, math.MaxInt, 1 << 32} {
			for _, kind := range slices.Concat(between, ahead) {
				holdRefused(t, x, op.Op{Name: "-", Kind: kind, Level: level}, api.EARG)
				holdRefused(t, x, op.Op{Name: "a", Kind: kind, Level: level}, api.EARG)
			}
		}
	}
}

func TestAddToAFullTable(t *testing.T) {
	x := many(128)
	for _, o := range []op.Op{{Name: "a", Kind: "fy", Level: 1}, {Name: "n0", Kind: "fx", Level: 1200}, {Name: "n128", Kind: "xfx", Level: 7}} {
		holdRefused(t, x, o, api.EFULL)
		holdRefused(t, x, op.Op{Name: o.Name, Kind: o.Kind}, api.ENONE)
	}
	for _, at := range []int{0, 1, 64, 127} {
		o := op.Op{Name: x.L[at].Name, Kind: "xfy", Level: 1200}
		want := op.Table{L: slices.Clone(x.L)}
		want.L[at] = o
		holdAdd(t, x, o, want)
		o.Level = 0
		want = op.Table{L: slices.Delete(slices.Clone(x.L), at, at+1)}
		holdAdd(t, x, o, want)
		holdAdd(t, want, op.Op{Name: "n128", Kind: "fy", Level: 7}, op.Table{L: append(slices.Clone(want.L), op.Op{Name: "n128", Kind: "fy", Level: 7})})
	}
}

func TestSides(t *testing.T) {
	for _, level := range []int{1, 2, 200, 1000, 1199, 1200, 0, -5, 1201, math.MaxInt, math.MinInt + 1} {
		for _, name := range []string{"a", ",", "", "[]"} {
			for _, c := range []struct {
				kind        string
				left, right int
			}{{"xfx", level - 1, level - 1}, {"xfy", level - 1, level}, {"yfx", level, level - 1}, {"fy", 0, level}, {"fx", 0, level - 1}} {
				if left, right := op.Sides(op.Op{Name: name, Kind: c.kind, Level: level}); left != c.left || right != c.right {
					t.Errorf("P5.1: Sides of %q, %s %d: %d, %d", name, c.kind, level, left, right)
				}
			}
			for _, kind := range neither {
				if left, right := op.Sides(op.Op{Name: name, Kind: kind, Level: level}); left != 0 || right != 0 {
					t.Errorf("P5.1: Sides of %q, %q %d: %d, %d", name, kind, level, left, right)
				}
			}
		}
	}
}

func TestNoMemoryIsShared(t *testing.T) {
	x := table(t, "a", "fx", "3", "b", "xfx", "7", "c", "yfx", "5", "kept", "fy", "1", "too", "fy", "2")
	held := slices.Clone(x.L)
	short := op.Table{L: x.L[:3]}
	for _, o := range []op.Op{{Name: "d", Kind: "fy", Level: 1}, {Name: "b", Kind: "xfy", Level: 1}, {Name: "a", Kind: "fy"}, {Name: "b", Kind: "xfx"}, {Name: "c", Kind: "xfx"}, {Name: "d", Kind: "fy"}} {
		one, e := op.Add(short, o)
		two, _ := op.Add(short, o)
		told := slices.Clone(two.L)
		for i := range one.L[:cap(one.L)] {
			one.L[:cap(one.L)][i] = op.Op{Name: "over"}
		}
		if !slices.Equal(x.L, held) || !slices.Equal(two.L, told) {
			t.Fatalf("R4: Add of %v (%d) shares memory: %v, %v", o, e, x, two)
		}
	}
	op.In(short, "a")
	op.Pre(short, "b")
	op.Good(short)
	if !slices.Equal(x.L, held) {
		t.Errorf("R4: what was handed in is %v", x)
	}
}

// slowAdd does what Add should to a table that may be, of an operator that may be.
func slowAdd(l []op.Op, o op.Op) ([]op.Op, api.Errno) {
	var some []op.Op
	found := false
	for _, held := range l {
		if held.Name != o.Name || slices.Contains(ahead, held.Kind) != slices.Contains(ahead, o.Kind) {
			some = append(some, held)
			continue
		}
		found = true
		if o.Level > 0 {
			some = append(some, o)
		}
	}
	switch {
	case !found && o.Level == 0:
		return nil, api.ENONE
	case !found && len(l) >= 128:
		return nil, api.EFULL
	case !found:
		some = append(some, o)
	}
	return some, api.OK
}

func TestManyAddsAgainstASlowTable(t *testing.T) {
	next := uint32(1)
	roll := func(n int) int {
		next = next*1664525 + 1013904223
		return int(next>>16) % n
	}
	kinds := slices.Concat(between, ahead)
	x := op.Table{}
	for range 4000 {
		o := op.Op{Name: "n" + strconv.Itoa(roll(80)), Kind: kinds[roll(5)], Level: max(0, roll(1500)-300)}
		want, e := slowAdd(x.L, o)
		if e != api.OK {
			holdRefused(t, x, o, e)
			continue
		}
		holdAdd(t, x, o, op.Table{L: want})
		x = op.Table{L: want}
		holdGood(t, x, true)
		call := op.In
		if slices.Contains(ahead, o.Kind) {
			call = op.Pre
		}
		if got, ok := call(x, o.Name); ok != (o.Level > 0) || ok && got != o {
			t.Errorf("P5.1: %v is told as %v, %v", o, got, ok)
		}
	}
}
