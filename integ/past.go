package integ

import "selvedge/version"

// past is changes, piece by piece, of which each leads to the one ahead of it, and to none
// behind it: so integrators share what they have in common, and one more piece costs no
// copy of the others.
type past struct {
	last  *piece
	count int
}

// piece is the changes that came of one call, behind others. It isn't written to.
type piece struct {
	ahead   *piece
	changes []version.Change
}

// with is a past with a call's changes behind it.
func (p past) with(l []version.Change) past {
	if len(l) == 0 {
		return p
	}
	return past{last: &piece{ahead: p.last, changes: l}, count: p.count + len(l)}
}

// list are all changes, in the order in which they came.
func (p past) list() []version.Change {
	l := make([]version.Change, p.count)
	at := p.count
	for n := p.last; n != nil; n = n.ahead {
		at -= len(n.changes)
		copy(l[at:], n.changes)
	}
	return l
}
