package client

import (
	"selvedge/api"
	"selvedge/board"
	"selvedge/replica"
)

// state is what a call's next step is.
type state int

// The states.
const (
	start state = iota
	lock
	push
	free
	wait
	fetch
	look
	shut
	seal
	open
	away
	done
)

// words are those of the states, each at its number.
var words = [...]string{
	start: "start",
	lock:  "lock",
	push:  "push",
	free:  "free",
	wait:  "wait",
	fetch: "fetch",
	look:  "look",
	shut:  "shut",
	seal:  "seal",
	open:  "open",
	away:  "away",
	done:  "done",
}

// steps are what is done in each state; what has none here does nothing any more.
func steps() map[state]func(Way, board.Board) (board.Board, Way) {
	return map[state]func(Way, board.Board) (board.Board, Way){
		start: Way.start,
		lock:  Way.lock,
		push:  Way.push,
		free:  Way.free,
		wait:  Way.wait,
		fetch: Way.fetch,
		look:  Way.look,
		shut:  Way.shut,
		seal:  Way.seal,
		open:  Way.open,
		away:  Way.away,
	}
}

// isKind says whether a call may be of a kind.
func isKind(k replica.Kind) bool { return k >= replica.Insert && k <= replica.Close }

// start has a call go on by its kind, if the flag doesn't refuse it.
func (w Way) start(b board.Board) (board.Board, Way) {
	k := w.call.Kind
	if !isKind(k) {
		return b, w.refused(api.ErrForm)
	}
	if k == replica.Close {
		b, down := b.Raise(w.thread)
		return b, w.unless(!down, shut)
	}
	b, up := b.Up(w.thread)
	if k.Writes() {
		return b, w.unless(up, lock)
	}
	return b, w.unless(up, look)
}

// unless is a call in another state; refused, if another one has closed.
func (w Way) unless(closed bool, s state) Way {
	if closed {
		return w.refused(api.ErrClosed)
	}
	return w.on(s)
}

// lock takes the lock of the stripe in which a write waits.
func (w Way) lock(b board.Board) (board.Board, Way) {
	return w.taken(b, w.home(b), push)
}

// taken takes a stripe's lock, and goes on to another state, if it was free.
func (w Way) taken(b board.Board, stripe int, s state) (board.Board, Way) {
	b, taken := b.Lock(w.thread, stripe)
	if !taken {
		return b, w
	}
	return b, w.on(s)
}

// push has a write wait in the queue. If it may not, it is refused no sooner than behind
// the next step, since the lock must be freed in any case.
func (w Way) push(b board.Board) (board.Board, Way) {
	b, w.result.Err = b.Push(w.thread, w.home(b), w.slot, w.call)
	return b, w.on(free)
}

// free lets a write's lock go.
func (w Way) free(b board.Board) (board.Board, Way) {
	b = b.Unlock(w.thread, w.home(b))
	if e := w.result.Err; e != api.OK {
		return b, w.refused(e)
	}
	return b, w.on(wait)
}

// wait asks whether a write was answered.
func (w Way) wait(b board.Board) (board.Board, Way) {
	b, filled := b.Filled(w.thread, w.slot)
	if !filled {
		return b, w
	}
	return b, w.on(fetch)
}

// fetch is a write's end: what was answered.
func (w Way) fetch(b board.Board) (board.Board, Way) {
	b, x := b.Fetch(w.thread, w.slot)
	return b, w.answered(x)
}

// look is the end of a call that only looks: it asks the replica that was published.
func (w Way) look(b board.Board) (board.Board, Way) {
	b, r := b.Load(w.thread)
	return b, w.answered(r.Look(w.call))
}

// shut takes the lock of the stripe that a Close is at.
func (w Way) shut(b board.Board) (board.Board, Way) {
	return w.taken(b, w.stripe, seal)
}

// seal has nothing more be pushed to that stripe.
func (w Way) seal(b board.Board) (board.Board, Way) {
	return b.Seal(w.thread, w.stripe), w.on(open)
}

// open lets that stripe's lock go, and has a Close be at the next one.
func (w Way) open(b board.Board) (board.Board, Way) {
	b = b.Unlock(w.thread, w.stripe)
	w.stripe++
	if w.stripe == b.Stripes() {
		return b, w.on(away)
	}
	return b, w.on(shut)
}

// away asks whether all that was pushed is done, which is the end of a Close.
func (w Way) away(b board.Board) (board.Board, Way) {
	b, gone := b.Gone(w.thread)
	if !gone {
		return b, w
	}
	return b, w.answered(replica.Result{})
}
