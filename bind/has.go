package bind

import (
	"math"

	"sizar/term"
)

// search looks for a variable, and counts what it looks at.
type search struct {
	binds *Binds
	n     int64
	most  int
	count int
	pile  []place       // what is still to be looked at, the next one last
	known map[int64]int // how much is counted of a variable that stands for something and does not have n in it
}

// place is a term that is to be looked at, or the end of what a variable stands for.
type place struct {
	term term.Term
	ends bool
	from int // how much was counted ahead of what ends here
}

// Has tells whether a variable stands in a term.
func (b *Binds) Has(n int64, in term.Term, most int) (bool, int) {
	if !b.fits(in) {
		return false, 0
	}
	// One more than the greatest number would not be a number.
	most = min(max(most, 0), math.MaxInt-1)
	s := search{binds: b, n: n, most: most, pile: []place{{term: in}}, known: map[int64]int{}}
	return s.run()
}

// run looks from left to right. It keeps a pile in place of calls: terms may stand for others more often than calls could be nested.
func (s *search) run() (bool, int) {
	for len(s.pile) > 0 {
		next := s.pile[len(s.pile)-1]
		s.pile = s.pile[:len(s.pile)-1]
		if next.ends {
			s.known[next.term.N] = s.count - next.from
			continue
		}
		if s.look(next.term) {
			return true, s.count
		}
	}
	return false, s.count
}

// look looks at one, and tells whether that ends the search.
func (s *search) look(t term.Term) bool {
	// What is known is not gone through anew: one that has another twice, and so on, has more within than could ever be counted one by one.
	if t.Kind == kindVar {
		if many, ok := s.known[t.N]; ok {
			return s.add(many)
		}
	}
	w := s.binds.Walk(t)
	if t.Kind == kindVar && len(w.Args) > 0 {
		s.pile = append(s.pile, place{term: t, ends: true, from: s.count})
	}
	for i := len(w.Args) - 1; i >= 0; i-- {
		s.pile = append(s.pile, place{term: w.Args[i]})
	}
	return s.add(1) || w.Kind == kindVar && w.N == s.n
}

// add counts so many, and tells whether that is past the most.
func (s *search) add(many int) bool {
	// The room that is left is asked for, not the sum, which may be too great a number.
	if many > s.most-s.count {
		s.count = s.most + 1
		return true
	}
	s.count += many
	return false
}
