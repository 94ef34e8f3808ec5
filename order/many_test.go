package order_test

import (
	"encoding/binary"
	"math"
	"slices"
	"strings"
	"testing"

	"sizar/order"
	"sizar/term"
)

// told tells a term that may be as bytes, so that terms are in order as their bytes are: no text is the beginning of another, and what is asked first stands first.
func told(x term.Term) string {
	var b []byte
	switch {
	case x.Kind == 0:
		b = binary.BigEndian.AppendUint64([]byte{0}, uint64(x.N))
	case x.Kind == 1:
		// The least number is nought then.
		b = binary.BigEndian.AppendUint64([]byte{1}, uint64(x.N)^1<<63)
	case len(x.Args) == 0:
		b = append([]byte{2}, x.Name...)
		b = append(b, 0)
	default:
		b = append([]byte{3, byte(len(x.Args))}, x.Name...)
		b = append(b, 0)
		for _, a := range x.Args {
			b = append(b, told(a)...)
		}
	}
	return string(b)
}

// holdTold holds what is answered of two against the bytes that they are told as.
func holdTold(t *testing.T, a, b term.Term) {
	t.Helper()
	want := strings.Compare(told(a), told(b))
	hold(t, a, b, want)
	if (want == 0) != term.Same(a, b) {
		t.Errorf("P10.1: Cmp(%v, %v) is %d, and Same %v", a, b, want, term.Same(a, b))
	}
}

// small are terms of all forms, that have none or one of some within.
func small() []term.Term {
	some := []term.Term{v(0), v(1), n(-1), n(0), at(""), at("a"), at("b")}
	l := slices.Clone(some)
	for _, name := range []string{"", "a", "b"} {
		for _, x := range some {
			l = append(l, f(name, x))
			for _, y := range some {
				l = append(l, f(name, x, y))
			}
		}
	}
	return l
}

func TestAllSmallTerms(t *testing.T) {
	l := small()
	for _, x := range l[:7] {
		l = append(l, f("a", f("a", x)), f("a", f("b", x), x), f("a", x, f("b", x)), f("b", x, x, x))
	}
	for i, a := range l {
		for _, b := range l[i:] {
			holdTold(t, a, b)
		}
	}
}

// dice tells numbers that are the same each time.
type dice uint32

func (d *dice) roll(most int) int {
	*d = *d*1664525 + 1013904223
	return int(*d>>16) % most
}

// pick tells one of some.
func pick[T any](d *dice, some ...T) T { return some[d.roll(len(some))] }

// name makes a name.
func (d *dice) name() string {
	return pick(d, "", "\t", "\n", " ", "a", "a", "ab", "a\n", "b", "A", "~", "[]", ".", strings.Repeat("a", 64), strings.Repeat("a", 63)+"b")
}

// any makes a term, at most so deep.
func (d *dice) any(deep int) term.Term {
	switch kind := d.roll(7); {
	case kind == 0:
		return v(pick(d, int64(d.roll(12)), math.MaxInt32, math.MaxInt32-1))
	case kind == 1:
		return n(pick(d, int64(d.roll(5)-2), math.MinInt64, math.MaxInt64, 1<<32, -1<<32))
	case kind == 2 || deep <= 1:
		return at(d.name())
	}
	args := make([]term.Term, d.roll(5))
	for i := range args {
		args[i] = d.any(deep - 1)
	}
	return f(d.name(), args...)
}

// other makes a term of another, with one place within changed.
func (d *dice) other(x term.Term) term.Term {
	if len(x.Args) == 0 || d.roll(4) == 0 {
		return d.any(2)
	}
	args := slices.Clone(x.Args)
	place := d.roll(len(args))
	args[place] = d.other(args[place])
	return f(x.Name, args...)
}

func TestManyTermsAgainstTheirBytes(t *testing.T) {
	d := dice(11)
	var ahead, alike, behind int
	for range 4000 {
		x := d.any(pick(&d, 2, 4, 6, 9))
		y := pick(&d, d.any(4), d.other(x), d.other(d.other(x)))
		if !term.Good(x) || !term.Good(y) {
			continue
		}
		holdTold(t, x, y)
		switch order.Cmp(x, y) {
		case -1:
			ahead++
		case 0:
			alike++
		case 1:
			behind++
		}
	}
	if ahead < 1000 || alike < 50 || behind < 1000 {
		t.Errorf("of the pairs %d are ahead, %d alike, %d behind", ahead, alike, behind)
	}
}

// What is put in order by Cmp is in the order of the bytes.
func TestManyTermsInOrder(t *testing.T) {
	d := dice(5)
	var l []term.Term
	for len(l) < 2000 {
		if x := d.any(5); term.Good(x) {
			l = append(l, x)
		}
	}
	slices.SortStableFunc(l, order.Cmp)
	if !slices.IsSortedFunc(l, func(a, b term.Term) int { return strings.Compare(told(a), told(b)) }) {
		t.Error("P10.1: terms put in order by Cmp are not")
	}
}

// Of two whose keys are not alike the keys decide: how many Args there are is asked ahead of the name.
func TestKeysOfManyTerms(t *testing.T) {
	l := small()
	for i, a := range l {
		placeA, nameA, argsA := order.Key(a)
		for _, b := range l[i:] {
			placeB, nameB, argsB := order.Key(b)
			want := 0
			switch {
			case placeA != placeB:
				want = sign(placeA < placeB)
			case argsA != argsB:
				want = sign(argsA < argsB)
			case nameA != nameB:
				want = sign(nameA < nameB)
			}
			if want != 0 && order.Cmp(a, b) != want {
				t.Errorf("P10.1: Cmp(%v, %v) is not as their keys", a, b)
			}
		}
	}
}

// sign tells -1 of one that is ahead, and 1 of another.
func sign(ahead bool) int {
	if ahead {
		return -1
	}
	return 1
}
