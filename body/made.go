package body

import (
	"slices"

	"sizar/api"
	"sizar/term"
)

// made tells whether Of makes a row of some term. There is one, just if the least that would make it is not too great and not too deep.
func made(l []Goal) bool {
	// Each goal is at least one of the terms that a term is made of: so no more are looked at, and what has itself within has an end.
	s := search{left: api.MaxCells}
	n, ok := s.row(l)
	return ok && n.size <= api.MaxCells && n.depth <= api.MaxDepth
}

// least is how much a term that makes some goals has at least. No term that makes them is smaller or less deep than the one that has both.
type least struct{ size, depth int }

// over tells of a name with such Args.
func over(args ...least) least {
	n := least{size: 1, depth: 1}
	for _, a := range args {
		n.size += a.size
		n.depth = max(n.depth, 1+a.depth)
	}
	return n
}

// search looks for the least term; left is how many goals it may still look at.
type search struct{ left int }

// row tells of a row; false, if there is none that may be.
func (s *search) row(l []Goal) (least, bool) {
	if len(l) == 0 {
		return over(), true
	}
	size := len(l) - 1 // that which joins them
	var depths []int
	for _, g := range l {
		n, ok := s.goal(g)
		if !ok {
			return least{}, false
		}
		size += n.size
		depths = append(depths, n.depth)
	}
	return least{size, joinedDepth(depths)}, true
}

// goal tells of a goal; false likewise.
func (s *search) goal(g Goal) (least, bool) {
	s.left--
	if s.left < 0 || !formed(g) {
		return least{}, false
	}
	var rows []least
	for _, l := range g.L {
		n, ok := s.row(l)
		if !ok {
			return least{}, false
		}
		rows = append(rows, n)
	}
	switch {
	case g.Kind == kindCall:
		return leastCall(g.T), true
	case g.Kind == kindIf && !short(g):
		return over(over(rows[0], rows[1]), rows[2]), true
	case g.Kind == kindIf:
		return over(rows[0], rows[1]), true
	case g.Kind == kindOr && len(g.L[0]) == 1 && short(g.L[0][0]):
		// A -> on the left would make an if of the or: so it has its ; and fail there.
		rows[0] = over(rows[0], over())
	}
	return over(rows...), true
}

// formed tells whether a goal has what one of its kind has, whatever is in its rows.
func formed(g Goal) bool {
	switch g.Kind {
	case kindCall:
		return len(g.L) == 0 && isCall(g.T)
	case kindCut:
		return len(g.L) == 0 && zero(g.T)
	case kindOr:
		return len(g.L) == 2 && zero(g.T)
	case kindIf:
		return len(g.L) == 3 && zero(g.T)
	case kindNot:
		return len(g.L) == 1 && zero(g.T)
	}
	return false
}

// isCall tells whether a term makes a call of itself.
func isCall(t term.Term) bool {
	l, _ := Of(t)
	return len(l) == 1 && l[0].Kind == kindCall && term.Same(l[0].T, t)
}

// zero tells whether a term is the zero one.
func zero(t term.Term) bool { return term.Same(t, term.Term{}) }

// leastCall tells of a call of a term.
func leastCall(t term.Term) least {
	if is(t, callName, 1) && t.Args[0].Kind == kindVar {
		return over() // the variable alone makes it
	}
	return least{term.Size(t), term.Depth(t)}
}

// short tells whether a goal is an if that -> makes without a ; and an else. Its rows have been looked at.
func short(g Goal) bool {
	return g.Kind == kindIf && len(g.L[2]) == 1 && is(g.L[2][0].T, failName, 0)
}

// joinedDepth tells how deep a term is at least that joins, in their order, some that are so deep. Past the limit it matters no more how far.
func joinedDepth(depths []int) int {
	depth := slices.Max(depths)
	for depth <= api.MaxDepth && !joins(depths, depth) {
		depth++
	}
	return depth
}

// joins tells whether a term that joins some, in their order, may be of such a depth, which none of them is past.
func joins(depths []int, depth int) bool {
	// Below such a term is room for 2^(depth-1) ends, side by side. One of depth d takes 2^(d-1) of these, from a multiple of that on; and the first that are free are never worse than others.
	room := uint64(1) << (depth - 1)
	taken := uint64(0)
	for _, d := range depths {
		own := uint64(1) << (d - 1)
		from := (taken + own - 1) / own * own
		if from > room-own {
			return false
		}
		taken = from + own
	}
	return true
}
