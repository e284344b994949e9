package integ

import (
	"slices"

	"selvedge/board"
	"selvedge/replica"
	"selvedge/ring"
	"selvedge/version"
)

// state is what an integrator's next step is.
type state int

// The states.
const (
	grab state = iota
	pop
	check
	skip
	drop
	apply
	reply
	leave
	done
)

// words are those of the states, each at its number.
var words = [...]string{
	grab:  "grab",
	pop:   "pop",
	check: "check",
	skip:  "skip",
	drop:  "drop",
	apply: "apply",
	reply: "reply",
	leave: "leave",
	done:  "done",
}

// steps are what is done in each state; what has none here does nothing any more.
func steps() map[state]func(Integ, board.Board) (board.Board, Integ) {
	return map[state]func(Integ, board.Board) (board.Board, Integ){
		grab:  Integ.grab,
		pop:   Integ.pop,
		check: Integ.check,
		skip:  Integ.skip,
		drop:  Integ.drop,
		apply: Integ.apply,
		reply: Integ.reply,
		leave: Integ.leave,
	}
}

// grab takes the lock of the stripe that an integrator is at, if it is free.
func (g Integ) grab(b board.Board) (board.Board, Integ) {
	b, taken := b.Lock(g.thread, g.stripe)
	if !taken {
		return b, g
	}
	return b, g.on(pop)
}

// pop looks there for the entry that is next of all, whose stripe may be another one.
func (g Integ) pop(b board.Board) (board.Board, Integ) {
	b, x, taken := b.Pop(g.thread, g.stripe, g.next)
	if !taken {
		return b, g.on(check)
	}
	g.entry = x
	return b, g.on(drop)
}

// check asks whether anything may come there yet.
func (g Integ) check(b board.Board) (board.Board, Integ) {
	b, empty := b.Empty(g.thread, g.stripe)
	if empty {
		g.finished[g.stripe] = true
	}
	return b, g.on(skip)
}

// skip goes on to the next stripe; or away, if nothing comes to any of them any more.
func (g Integ) skip(b board.Board) (board.Board, Integ) {
	b = b.Unlock(g.thread, g.stripe)
	// The zero board has no stripe, and nothing is modulo 0.
	g.stripe = (g.stripe + 1) % max(1, b.Stripes())
	if g.over(b.Stripes()) {
		return b, g.on(leave)
	}
	return b, g.on(grab)
}

// over says whether all of so many stripes are finished.
func (g Integ) over(stripes int) bool {
	return !slices.Contains(g.finished[:stripes], false)
}

// drop lets the lock go ahead of the work, so that others needn't wait for that.
func (g Integ) drop(b board.Board) (board.Board, Integ) {
	return b.Unlock(g.thread, g.stripe), g.on(apply)
}

// apply has the replica do what the entry asks for, and publishes the one behind it.
func (g Integ) apply(b board.Board) (board.Board, Integ) {
	var l []version.Change
	g.replica, g.result, l = g.replica.Changes(g.entry.Call)
	g.past = g.past.with(l)
	g.buffers = heard(g.buffers, l)
	return b.Publish(g.thread, g.replica), g.on(reply)
}

// heard are buffers behind changes, in memory of their own.
func heard(buffers []ring.Buffer, l []version.Change) []ring.Buffer {
	behind := slices.Clone(buffers)
	for i := range behind {
		for _, c := range l {
			behind[i] = behind[i].Put(c)
		}
	}
	return behind
}

// reply answers the entry, and has the next one's turn come.
func (g Integ) reply(b board.Board) (board.Board, Integ) {
	b = b.Fill(g.thread, g.entry.Slot, g.result)
	g.entry, g.result = board.Entry{}, replica.Result{}
	g.next++
	return b, g.on(grab)
}

// leave tells that nothing will be applied any more.
func (g Integ) leave(b board.Board) (board.Board, Integ) {
	return b.Leave(g.thread), g.on(done)
}
