package whole_test

import (
	"math"
	"math/big"
	"slices"
	"strings"
	"testing"

	"sizar/api"
	"sizar/whole"
)

const (
	top   = math.MaxInt64
	least = math.MinInt64
)

// numbers are those from which operands are taken: small ones, and those beside each edge.
func numbers() []int64 {
	all := []int64{3037000499, 3037000500, -3037000499, -3037000500, 4611686018427387904, 6148914691236517205}
	for n := range int64(12) {
		all = append(all, n, -n, top-n, least+n)
	}
	for shift := 4; shift < 63; shift++ {
		n := int64(1) << shift
		all = append(all, n-1, n, n+1, -n-1, -n, -n+1)
	}
	return append(all, 64, 65, -64, -65)
}

// fit tells the answer that a number of any length calls for.
func fit(n *big.Int) (int64, api.Errno) {
	if !n.IsInt64() {
		return 0, api.EOVER
	}
	return n.Int64(), api.OK
}

// holdTwo holds one answer of Two against the one that is asked for.
func holdTwo(t *testing.T, op string, a, b, want int64, e api.Errno) {
	t.Helper()
	if got, ge := whole.Two(op, a, b); got != want || ge != e {
		t.Errorf("P2.1: Two(%q, %d, %d): %d, %d; not %d, %d", op, a, b, got, ge, want, e)
	}
}

func TestTwoAddsTakesAndMultiplies(t *testing.T) {
	all := numbers()
	for op, reckon := range map[string]func(z, x, y *big.Int) *big.Int{
		"+": (*big.Int).Add,
		"-": (*big.Int).Sub,
		"*": (*big.Int).Mul,
	} {
		for _, a := range all {
			for _, b := range all {
				want, e := fit(reckon(new(big.Int), big.NewInt(a), big.NewInt(b)))
				holdTwo(t, op, a, b, want, e)
			}
		}
	}
}

func TestTwoDivides(t *testing.T) {
	all := numbers()
	for _, a := range all {
		for _, op := range []string{"//", "rem", "mod"} {
			holdTwo(t, op, a, 0, 0, api.EZERO)
		}
		for _, b := range all {
			if b == 0 {
				continue
			}
			quo, rem := new(big.Int).QuoRem(big.NewInt(a), big.NewInt(b), new(big.Int))
			want, e := fit(quo)
			holdTwo(t, "//", a, b, want, e)
			holdTwo(t, "rem", a, b, rem.Int64(), api.OK)
			if rem.Sign()*big.NewInt(b).Sign() < 0 {
				rem.Add(rem, big.NewInt(b))
			}
			holdTwo(t, "mod", a, b, rem.Int64(), api.OK)
		}
	}
}

func TestTwoDividesBySigns(t *testing.T) {
	for _, c := range []struct{ a, b, quo, rem, mod int64 }{
		{7, 3, 2, 1, 1},
		{-7, 3, -2, -1, 2},
		{7, -3, -2, 1, -2},
		{-7, -3, 2, -1, -1},
		{-6, 3, -2, 0, 0},
		{6, -3, -2, 0, 0},
		{0, -3, 0, 0, 0},
		{least, top, -1, -1, top - 1},
		{top, least, 0, top, -1},
		{least, least, 1, 0, 0},
	} {
		holdTwo(t, "//", c.a, c.b, c.quo, api.OK)
		holdTwo(t, "rem", c.a, c.b, c.rem, api.OK)
		holdTwo(t, "mod", c.a, c.b, c.mod, api.OK)
	}
	holdTwo(t, "//", least, -1, 0, api.EOVER)
	holdTwo(t, "rem", least, -1, 0, api.OK)
	holdTwo(t, "mod", least, -1, 0, api.OK)
}

func TestTwoBitByBitMinAndMax(t *testing.T) {
	all := numbers()
	for _, a := range all {
		for _, b := range all {
			x, y := big.NewInt(a), big.NewInt(b)
			holdTwo(t, "/\\", a, b, new(big.Int).And(x, y).Int64(), api.OK)
			holdTwo(t, "\\/", a, b, new(big.Int).Or(x, y).Int64(), api.OK)
			holdTwo(t, "xor", a, b, new(big.Int).Xor(x, y).Int64(), api.OK)
			less, more := a, b
			if x.Cmp(y) > 0 {
				less, more = b, a
			}
			holdTwo(t, "min", a, b, less, api.OK)
			holdTwo(t, "max", a, b, more, api.OK)
		}
	}
}

func TestTwoShifts(t *testing.T) {
	for _, a := range numbers() {
		for shift := range uint(64) {
			holdTwo(t, ">>", a, int64(shift), new(big.Int).Rsh(big.NewInt(a), shift).Int64(), api.OK)
			want, e := fit(new(big.Int).Lsh(big.NewInt(a), shift))
			holdTwo(t, "<<", a, int64(shift), want, e)
		}
		for _, shift := range []int64{64, 65, 128, -1, -63, -64, 1 << 32, top, least} {
			holdTwo(t, ">>", a, shift, 0, api.ETYPE)
			holdTwo(t, "<<", a, shift, 0, api.ETYPE)
		}
	}
}

func TestTwoPowers(t *testing.T) {
	for _, a := range numbers() {
		for b := range int64(70) {
			want, e := fit(new(big.Int).Exp(big.NewInt(a), big.NewInt(b), nil))
			holdTwo(t, "^", a, b, want, e)
		}
	}
}

func TestTwoPowersFarOut(t *testing.T) {
	for _, b := range []int64{70, 71, 1 << 40, top - 1, top} {
		holdTwo(t, "^", 0, b, 0, api.OK)
		holdTwo(t, "^", 1, b, 1, api.OK)
		for _, a := range []int64{2, -2, 3, -3, 10, 1 << 32, top, least} {
			holdTwo(t, "^", a, b, 0, api.EOVER)
		}
	}
	holdTwo(t, "^", -1, top, -1, api.OK)
	holdTwo(t, "^", -1, top-1, 1, api.OK)
	for _, b := range []int64{-1, -2, -3, least + 1, least} {
		holdTwo(t, "^", 1, b, 1, api.OK)
		for _, a := range []int64{0, 2, -2, 3, 10, top, least} {
			holdTwo(t, "^", a, b, 0, api.ETYPE)
		}
	}
	holdTwo(t, "^", -1, -1, -1, api.OK)
	holdTwo(t, "^", -1, -2, 1, api.OK)
	holdTwo(t, "^", -1, least+1, -1, api.OK)
	holdTwo(t, "^", -1, least, 1, api.OK)
}

func TestOne(t *testing.T) {
	for _, a := range numbers() {
		x := big.NewInt(a)
		neg, negE := fit(new(big.Int).Neg(x))
		abs, absE := fit(new(big.Int).Abs(x))
		for _, c := range []struct {
			op   string
			want int64
			e    api.Errno
		}{
			{"-", neg, negE},
			{"+", a, api.OK},
			{"abs", abs, absE},
			{"sign", int64(x.Sign()), api.OK},
			{"\\", new(big.Int).Not(x).Int64(), api.OK},
		} {
			if got, e := whole.One(c.op, a); got != c.want || e != c.e {
				t.Errorf("P2.1: One(%q, %d): %d, %d; not %d, %d", c.op, a, got, e, c.want, c.e)
			}
		}
	}
	for _, op := range []string{"-", "abs"} {
		if got, e := whole.One(op, least); got != 0 || e != api.EOVER {
			t.Errorf("P2.1: One(%q) of the least number: %d, %d", op, got, e)
		}
	}
}

func TestCmp(t *testing.T) {
	all := numbers()
	for _, a := range all {
		for _, b := range all {
			order := big.NewInt(a).Cmp(big.NewInt(b))
			for op, want := range map[string]bool{
				"=:=":  order == 0,
				"=\\=": order != 0,
				"<":    order < 0,
				">":    order > 0,
				"=<":   order <= 0,
				">=":   order >= 0,
			} {
				if got, e := whole.Cmp(op, a, b); got != want || e != api.OK {
					t.Errorf("P2.1: Cmp(%q, %d, %d): %v, %d", op, a, b, got, e)
				}
			}
		}
	}
}

// everyOp tells what the chapter names, and what is near it.
func everyOp() []string {
	return []string{
		"+", "-", "*", "//", "rem", "mod", "/\\", "\\/", "xor", ">>", "<<", "min", "max", "^",
		"abs", "sign", "\\", "=:=", "=\\=", "<", ">", "=<", ">=",
		"", " ", "/", "**", "++", "+ ", " +", "+\x00", "Min", "MAX", "mo", "modd", "div", "gcd", "not", "~",
		"==", "=", "!=", "<=", "=>", "\\=", "\\==", "=:", "\xff", strings.Repeat("+", 100),
	}
}

func TestOtherOpsAreRefused(t *testing.T) {
	pairs := [][2]int64{{1, 1}, {1, 0}, {0, 0}, {least, -1}, {2, -1}, {top, top}}
	for _, op := range everyOp() {
		two := slices.Contains([]string{"+", "-", "*", "//", "rem", "mod", "/\\", "\\/", "xor", ">>", "<<", "min", "max", "^"}, op)
		one := slices.Contains([]string{"-", "+", "abs", "sign", "\\"}, op)
		cmp := slices.Contains([]string{"=:=", "=\\=", "<", ">", "=<", ">="}, op)
		for _, p := range pairs {
			if got, e := whole.Two(op, p[0], p[1]); (e == api.EARG) == two || e != api.OK && got != 0 {
				t.Errorf("P2.1: Two(%q, %d, %d): %d, %d", op, p[0], p[1], got, e)
			}
			if got, e := whole.One(op, p[0]); (e == api.EARG) == one || e != api.OK && got != 0 {
				t.Errorf("P2.1: One(%q, %d): %d, %d", op, p[0], got, e)
			}
			if got, e := whole.Cmp(op, p[0], p[1]); (e == api.EARG) == cmp || e != api.OK && got {
				t.Errorf("P2.1: Cmp(%q, %d, %d): %v, %d", op, p[0], p[1], got, e)
			}
		}
	}
}

func TestTextAndParseGoBothWays(t *testing.T) {
	for _, n := range numbers() {
		s := whole.Text(n)
		if want := big.NewInt(n).String(); s != want {
			t.Errorf("P2.1: Text(%d): %q", n, s)
		}
		minus, digits := "", s
		if n < 0 {
			minus, digits = "-", s[1:]
		}
		for _, noughts := range []int{0, 1, 2, 30, 5000} {
			long := minus + strings.Repeat("0", noughts) + digits
			if got, e := whole.Parse(long); got != n || e != api.OK {
				t.Errorf("P2.1: Parse of %d noughts ahead of %q: %d, %d", noughts, s, got, e)
			}
		}
	}
}

func TestParseEdges(t *testing.T) {
	for _, c := range []struct {
		s    string
		want int64
		e    api.Errno
	}{
		{"0", 0, api.OK},
		{"-0", 0, api.OK},
		{"-000", 0, api.OK},
		{"9", 9, api.OK},
		{"9223372036854775807", top, api.OK},
		{"-9223372036854775808", least, api.OK},
		{"0009223372036854775807", top, api.OK},
		{"-0009223372036854775808", least, api.OK},
		{"9223372036854775808", 0, api.EOVER},
		{"-9223372036854775809", 0, api.EOVER},
		{"0009223372036854775808", 0, api.EOVER},
		{"18446744073709551615", 0, api.EOVER},
		{"18446744073709551616", 0, api.EOVER},
		{"-18446744073709551616", 0, api.EOVER},
		{"1" + strings.Repeat("0", 5000), 0, api.EOVER},
		{"-1" + strings.Repeat("0", 5000), 0, api.EOVER},
	} {
		if got, e := whole.Parse(c.s); got != c.want || e != c.e {
			t.Errorf("P2.1: Parse(%q): %d, %d; not %d, %d", c.s, got, e, c.want, c.e)
		}
	}
}

func TestParseRefusesOtherTexts(t *testing.T) {
	for _, s := range []string{
		"", "-", "+", "--", "--1", "+1", "-+1", "+-1", "1-", "1-1", "- 1", " ", " 1", "1 ", "1 1", "\t1", "1\n",
		"a", "1a", "a1", "0x1", "0b1", "0o7", "1_0", "_1", "1_", "1e3", "1.0", ".", "1.", "1,0",
		"99999999999999999999x", "-99999999999999999999x", "x99999999999999999999",
		"1\x00", "\x00", "\xff", "\u0661", "\u22121", "\uff11",
	} {
		if got, e := whole.Parse(s); got != 0 || e != api.EFORM {
			t.Errorf("P2.1: Parse(%q): %d, %d", s, got, e)
		}
	}
}

func TestParseByEachByte(t *testing.T) {
	for c := range 256 {
		digit := '0' <= c && c <= '9'
		for _, s := range []string{string([]byte{byte(c)}), string([]byte{'1', byte(c)}), string([]byte{'-', byte(c)})} {
			if _, e := whole.Parse(s); (e == api.OK) != digit || !digit && e != api.EFORM {
				t.Errorf("P2.1: Parse(%q): %d", s, e)
			}
		}
	}
}
