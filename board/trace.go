package board

import "selvedge/race"

// The acts of whichever thread: told has them be one's.

func read(place int) race.Act { return race.Act{Kind: race.Read, Loc: place} }

func write(place int) race.Act { return race.Act{Kind: race.Write, Loc: place} }

func acquire(sign int) race.Act { return race.Act{Kind: race.Acquire, Loc: sign} }

func release(sign int) race.Act { return race.Act{Kind: race.Release, Loc: sign} }

// told is a board with a thread's acts behind its trace, in their order.
func (b Board) told(t int, acts ...race.Act) Board {
	for _, a := range acts {
		a.Thread = t
		b.trace = b.trace.with(a)
	}
	return b
}

// trace is acts, of which each leads to the one ahead of it, and to none behind it: so
// boards share what they have in common, and one more act costs no copy of the others.
type trace struct {
	last  *link
	count int
}

// link is an act behind others. It isn't written to.
type link struct {
	ahead *link
	act   race.Act
}

// with is a trace with one act more.
func (t trace) with(a race.Act) trace {
	return trace{last: &link{ahead: t.last, act: a}, count: t.count + 1}
}

// list are a trace's acts, in the order in which they were done.
func (t trace) list() []race.Act {
	l := make([]race.Act, t.count)
	at := t.count
	for n := t.last; n != nil; n = n.ahead {
		at--
		l[at] = n.act
	}
	return l
}
