package sig_test

import (
	"math"
	"strconv"
	"strings"
	"testing"

	"sizar/api"
	"sizar/body"
	"sizar/sig"
	"sizar/term"
)

// own is what the chapter lists as mach's own.
const own = `true/0 fail/0 !/0 ,/2 ;/2 ->/2 \+/1 call/1 catch/3 throw/1 findall/3 =/2 \=/2 ==/2 \==/2 @</2 @>/2 @=</2 @>=/2 var/1 nonvar/1 atom/1 integer/1 atomic/1 compound/1 is/2 =:=/2 =\=/2 </2 >/2 =</2 >=/2 functor/3 arg/3 =../2 copy_term/2 atom_length/2 atom_chars/2 number_chars/2 sort/2 msort/2 keysort/2 length/2 assertz/1 asserta/1 retract/1 label/1 to_labeled/4 unlabel/2 :-/2`

// key is what tells a predicate from another one.
type key struct {
	name  string
	arity int
}

// owns are the keys of own.
func owns() map[key]struct{} {
	all := map[key]struct{}{}
	for _, word := range strings.Fields(own) {
		at := strings.LastIndex(word, "/")
		arity, _ := strconv.Atoi(word[at+1:])
		all[key{word[:at], arity}] = struct{}{}
	}
	return all
}

// holdPlain holds what Plain answers, for each of some Arities, against the list.
func holdPlain(t *testing.T, all map[key]struct{}, name string) {
	t.Helper()
	arities := []int{-256, -1, 0, 1, 2, 3, 4, 5, api.MaxArity, api.MaxArity + 1, 256, 257, 258, 259, 260, 1 << 32, 1<<32 + 1, 1<<32 + 2, 1<<32 + 3, math.MaxInt, math.MinInt, math.MinInt + 1, math.MinInt + 2}
	for _, arity := range arities {
		if _, want := all[key{name, arity}]; sig.Plain(name, arity) != want {
			t.Errorf("P17.1: Plain(%q, %d): %v", name, arity, !want)
		}
	}
}

func TestPlainOfMachsOwn(t *testing.T) {
	all := owns()
	if len(all) != 50 {
		t.Fatalf("the list has %d", len(all))
	}
	for k := range all {
		if !sig.Plain(k.name, k.arity) {
			t.Errorf("P17.1: Plain(%q, %d): false", k.name, k.arity)
		}
		holdPlain(t, all, k.name)
	}
}

func TestPlainOfNamesNearby(t *testing.T) {
	all := owns()
	for k := range all {
		for i := range len(k.name) {
			holdPlain(t, all, k.name[:i])
			holdPlain(t, all, k.name[i:])
			holdPlain(t, all, k.name[:i]+k.name[i+1:])
			holdPlain(t, all, k.name[:i]+strings.ToUpper(k.name[i:]))
			holdPlain(t, all, k.name[:i]+" "+k.name[i:])
			holdPlain(t, all, k.name[:i]+k.name[i:i+1]+k.name[i:])
		}
		for _, more := range []string{" ", "\x00", "\n", "a", "_", "=", "/", "/" + strconv.Itoa(k.arity), "'", k.name} {
			holdPlain(t, all, k.name+more)
			holdPlain(t, all, more+k.name)
		}
	}
}

func TestPlainOfOtherNames(t *testing.T) {
	all := owns()
	for _, name := range []string{
		"", " ", "p", "a", "[]", ".", "|", "{}", "()", "+", "-", "*", "//", "mod", "rem", "abs", "^", "not", "once", "halt", "false", "otherwise", "repeat", "ground", "number", "assert", "abolish", "retractall", "bagof", "setof", "forall", "nb_setval", "write", "print", "nl", "consult", "listing", "-->", "?-", "=@=", "\\=@=", "?=", "atom_codes", "number_codes", "char_code", "atom_to_term", "sub_atom", "atom_concat", "predsort", "append", "member", "yes", "no", "ball", "time", "long", "error", "ask", "more", "list", "labels", "labeled", "unlabeled",
		own, strings.Repeat("a", api.MaxAtom), strings.Repeat("true", 1<<16), "\xff", "\u00e9", "\uff01", "!\u0301",
	} {
		holdPlain(t, all, name)
	}
}

func TestPlainOfShortNames(t *testing.T) {
	all := owns()
	for one := range 256 {
		holdPlain(t, all, string([]byte{byte(one)}))
		for two := range 256 {
			name := string([]byte{byte(one), byte(two)})
			for arity := -1; arity < 5; arity++ {
				if _, want := all[key{name, arity}]; sig.Plain(name, arity) != want {
					t.Errorf("P17.1: Plain(%q, %d): %v", name, arity, !want)
				}
			}
		}
	}
}

// What no clause may be the head of is mach's own.
func TestPlainOfWhatIsNoHead(t *testing.T) {
	for _, name := range append(strings.Fields(own), ":-", ",", ";", "->", "\\+", "!", "true", "fail", "p", "") {
		for arity := range api.MaxArity + 1 {
			head := term.Comp(name, make([]term.Term, arity)...)
			if _, _, e := body.Clause(term.Comp(":-", head, term.Atom("true"))); e == api.EPERM && !sig.Plain(name, arity) {
				t.Errorf("P17.1: Plain(%q, %d): false", name, arity)
			}
		}
	}
}
