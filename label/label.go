// Package label: who may know what: see DOC.md, chapter 1.
package label

import (
	"math/bits"
	"slices"
	"strings"

	"sizar/api"
)

// mostLevelBits keeps what Levels lists short: at most 2^8 labels.
const mostLevelBits = 8

// Label is a set of categories.
type Label uint64

// Names is the categories' names.
type Names []string

// Good tells whether names may be.
func Good(n Names) bool {
	if len(n) < 1 || len(n) > api.MaxNames {
		return false
	}
	for i, name := range n {
		if !goodName(name) || slices.Contains(n[:i], name) {
			return false
		}
	}
	return true
}

// Fits tells whether a label has such names alone.
func Fits(n Names, l Label) bool {
	return Good(n) && Leq(l, first(len(n)))
}

// Join tells all of all.
func Join(l ...Label) Label {
	all := Label(0)
	for _, one := range l {
		all |= one
	}
	return all
}

// Meet tells what both have.
func Meet(a, b Label) Label { return a & b }

// Leq tells whether one has all of another's.
func Leq(a, b Label) bool { return a&^b == 0 }

// Text writes one.
func Text(n Names, l Label) string {
	if !Fits(n, l) {
		return ""
	}
	var in []string
	for i, name := range n {
		if has(l, i) {
			in = append(in, name)
		}
	}
	return "{" + strings.Join(in, ",") + "}"
}

// Parse reads one.
func Parse(n Names, s string) (Label, bool) {
	rest, ok := strings.CutPrefix(s, "{")
	if !ok || !Good(n) {
		return 0, false
	}
	l := Label(0)
	// Each name may stand only behind those ahead of it in n, so one walk over n finds all.
	for i, name := range n {
		if after, ok := cutName(rest, name, l == 0); ok {
			l |= bit(i)
			rest = after
		}
	}
	if rest != "}" {
		return 0, false
	}
	return l, true
}

// Top tells all names'.
func Top(n Names) Label {
	if !Good(n) {
		return 0
	}
	return first(len(n))
}

// Levels tells all below.
func Levels(n Names, l Label) []Label {
	count := bits.OnesCount64(uint64(l))
	if count > mostLevelBits || !Fits(n, l) {
		return nil
	}
	all := make([]Label, 0, 1<<count)
	// Taking l away and keeping l's bits alone carries over the gaps: the next greater label within l.
	for at := Label(0); ; at = (at - l) & l {
		all = append(all, at)
		if at == l {
			return all
		}
	}
}

// goodName tells whether a category may be called so.
func goodName(name string) bool {
	if len(name) < 1 || len(name) > api.MaxName || !small(name[0]) {
		return false
	}
	for i := 1; i < len(name); i++ {
		c := name[i]
		if !small(c) && !digit(c) && c != '_' {
			return false
		}
	}
	return true
}

// small tells whether a byte is a small letter.
func small(c byte) bool { return 'a' <= c && c <= 'z' }

// digit tells whether a byte is a digit.
func digit(c byte) bool { return '0' <= c && c <= '9' }

// bit tells the label of the i-th name alone.
func bit(i int) Label { return Label(1) << i }

// has tells whether a label has the i-th name.
func has(l Label, i int) bool { return l&bit(i) != 0 }

// first tells the label of so many names, from the first on.
func first(count int) Label { return bit(count) - 1 }

// cutName takes a whole name off a text's front, with the comma that parts it from one ahead of it.
func cutName(s, name string, foremost bool) (string, bool) {
	if !foremost {
		name = "," + name
	}
	rest, ok := strings.CutPrefix(s, name)
	// A name may begin like a longer one: it ends only where a comma or a bracket stands.
	if !ok || rest == "" || rest[0] != ',' && rest[0] != '}' {
		return s, false
	}
	return rest, true
}
