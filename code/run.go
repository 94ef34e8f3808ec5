package code

import (
	"sizar/api"
	"sizar/bind"
	"sizar/term"
	"sizar/unify"
)

// run does steps.
type run struct {
	binds *bind.Binds
	regs  []term.Term
	slots []term.Term
}

// fit tells whether all of some terms may be, and have no variables but b's.
func fit(b *bind.Binds, args []term.Term) bool {
	for _, a := range args {
		// Has looks at nothing just where the term may not be, or has others: with room for none it counts one of any other.
		if _, many := b.Has(0, a, 0); many == 0 {
			return false
		}
	}
	return true
}

// step does one: false, if its register is not as it asks, or with an error.
func (r *run) step(in Ins) (bool, api.Errno) {
	switch in.Op {
	case opVar:
		r.slots[in.B] = r.regs[in.A]
		return true, api.OK
	case opVal:
		return r.alike(in.A, r.slots[in.B])
	case opInt:
		return r.alike(in.A, term.Int(in.N))
	case opAtom:
		return r.alike(in.A, term.Atom(in.Name))
	}
	return r.comp(in)
}

// alike makes a register and a term alike.
func (r *run) alike(reg int, t term.Term) (bool, api.Errno) {
	ok, _, e := unify.Both(r.binds, r.regs[reg], t)
	return ok, e
}

// comp gives the Args of what a register has to theirs. A variable is made to stand for such a name first.
func (r *run) comp(in Ins) (bool, api.Errno) {
	t := r.binds.Walk(r.regs[in.A])
	if t.Kind == kindVar {
		fresh, ok := r.fresh(in)
		if !ok {
			return false, api.ECELLS
		}
		// It can't be refused: the variable stands for nothing, and its name's Args are all newer than it.
		r.binds.Set(t.N, fresh)
		t = fresh
	}
	if t.Name != in.Name || len(t.Args) != in.B {
		return false, api.OK
	}
	copy(r.regs[in.C:], t.Args)
	return true, api.OK
}

// fresh makes a step's name of new variables: false, if there is no room for them.
func (r *run) fresh(in Ins) (term.Term, bool) {
	var args []term.Term
	for range in.B {
		v, ok := r.binds.Fresh()
		if !ok {
			return term.Term{}, false
		}
		args = append(args, v)
	}
	return term.Comp(in.Name, args...), true
}
