package board_test

import (
	"maps"
	"slices"
	"strconv"
	"strings"
	"testing"

	"selvedge/api"
	"selvedge/board"
	"selvedge/id"
	"selvedge/race"
	"selvedge/replica"
)

// The tests hold the board against a model that keeps nothing but the list of what was
// done, and reckons from that, each time anew, what a board must answer and tell.

// done is one thing that was done to a board, with all that it needs.
type done struct {
	kind   string
	t      int
	at     int // a stripe, or a slot
	slot   int
	ticket int
	call   replica.Call
	x      replica.Result
	r      replica.Replica
}

// answer is what a call answers beside the board.
type answer struct {
	ok    bool
	err   api.Errno
	entry board.Entry
	x     replica.Result
	r     string // the story of a replica
}

// model is what was done to a board of a Site, with so many stripes of a room.
type model struct {
	site, stripes, room int
	l                   []done
}

// pair is a board, and what it must be.
type pair struct {
	b board.Board
	m model
}

// begun is a new board, and its model.
func begun(t *testing.T, site, stripes, room int) pair {
	t.Helper()
	b, e := board.New(site, stripes, room)
	if e != api.OK {
		t.Fatalf("New(%d, %d, %d): %v", site, stripes, room, e)
	}
	return pair{b, model{site: site, stripes: stripes, room: room}}
}

// fresh is a new replica of a Site.
func fresh(t *testing.T, site int) replica.Replica {
	t.Helper()
	r, e := replica.New(site)
	if e != api.OK {
		t.Fatal(site, e)
	}
	return r
}

// tale is what a replica tells of itself: whether it is closed, its text, its snapshot,
// and the operation that it would make, which has its Site.
func tale(r replica.Replica) string {
	s := "open"
	if r.Closed() {
		s = "closed"
	}
	snapshot := r.Look(replica.Call{Kind: replica.Snapshot})
	return strings.Join([]string{s, r.Version().Text(), strconv.Itoa(snapshot.N), snapshot.Text,
		r.Look(replica.Call{Kind: replica.Insert, Char: 'a'}).Text}, "; ")
}

// lastOf is the last thing done, of some kinds, to a stripe or a slot; false, if there is none.
func (m model) lastOf(at int, kinds ...string) (done, bool) {
	for _, d := range slices.Backward(m.l) {
		if d.at == at && slices.Contains(kinds, d.kind) {
			return d, true
		}
	}
	return done{}, false
}

// was says whether a thing of a kind was done to a stripe or a slot.
func (m model) was(at int, kind string) bool {
	_, ok := m.lastOf(at, kind)
	return ok
}

// holder is whose a lock is; -1, if it is free.
func (m model) holder(s int) int {
	if d, ok := m.lastOf(s, "lock", "unlock"); ok && d.kind == "lock" {
		return d.t
	}
	return -1
}

// queue are a stripe's entries. Only those pushes and pops, and locks, are in the list
// that did something.
func (m model) queue(s int) []board.Entry {
	var l []board.Entry
	ticket := 0
	for _, d := range m.l {
		switch {
		case d.kind == "push" && d.at == s:
			l = append(l, board.Entry{Ticket: ticket, Slot: d.slot, Call: d.call})
		case d.kind == "pop" && d.at == s:
			l = l[1:]
		}
		if d.kind == "push" {
			ticket++
		}
	}
	return l
}

// published is the tale of the replica that was published last.
func (m model) published(t *testing.T) string {
	t.Helper()
	if d, ok := m.lastOf(0, "publish"); ok {
		return tale(d.r)
	}
	return tale(fresh(t, m.site))
}

// answers is what must be answered, and whether there is something done beside the acts.
func (m model) answers(t *testing.T, d done) (answer, bool) {
	t.Helper()
	switch d.kind {
	case "up":
		return answer{ok: m.was(0, "raise")}, true
	case "raise":
		return answer{ok: !m.was(0, "raise")}, true
	case "lock":
		free := m.holder(d.at) == -1
		return answer{ok: free}, free
	case "push":
		if m.was(d.at, "seal") {
			return answer{err: api.ErrClosed}, false
		}
		if len(m.queue(d.at)) == m.room {
			return answer{err: api.ErrBusy}, false
		}
	case "pop":
		if l := m.queue(d.at); len(l) > 0 && l[0].Ticket == d.ticket {
			return answer{ok: true, entry: l[0]}, true
		}
		return answer{}, false
	case "empty":
		return answer{ok: m.was(d.at, "seal") && len(m.queue(d.at)) == 0}, true
	case "load":
		return answer{r: m.published(t)}, true
	case "filled":
		return answer{ok: m.was(d.at, "fill")}, true
	case "fetch":
		filled, _ := m.lastOf(d.at, "fill")
		return answer{x: filled.x}, true
	case "gone":
		return answer{ok: m.was(0, "leave")}, true
	}
	return answer{}, true
}

// acts are those that a thing adds to the trace, as the chapter's table has them; did
// says whether it did what it is for.
func acts(d done, did bool) []race.Act {
	switch d.kind {
	case "up":
		return []race.Act{{Thread: d.t, Kind: race.Acquire, Loc: 2001}}
	case "raise":
		return []race.Act{{Thread: d.t, Kind: race.Acquire, Loc: 2001}, {Thread: d.t, Kind: race.Release, Loc: 2001}}
	case "lock":
		if did {
			return []race.Act{{Thread: d.t, Kind: race.Acquire, Loc: 1000 + d.at}}
		}
		return nil
	case "unlock":
		return []race.Act{{Thread: d.t, Kind: race.Release, Loc: 1000 + d.at}}
	case "push", "pop":
		return queueActs(d, did)
	case "seal":
		return []race.Act{{Thread: d.t, Kind: race.Write, Loc: d.at}}
	case "empty":
		return []race.Act{{Thread: d.t, Kind: race.Read, Loc: d.at}}
	case "publish":
		return []race.Act{{Thread: d.t, Kind: race.Release, Loc: 2002}}
	case "load":
		return []race.Act{{Thread: d.t, Kind: race.Acquire, Loc: 2002}}
	case "fill":
		return []race.Act{{Thread: d.t, Kind: race.Write, Loc: 100 + d.at}, {Thread: d.t, Kind: race.Release, Loc: 3000 + d.at}}
	case "filled":
		return []race.Act{{Thread: d.t, Kind: race.Acquire, Loc: 3000 + d.at}}
	case "fetch":
		return []race.Act{{Thread: d.t, Kind: race.Read, Loc: 100 + d.at}}
	case "leave":
		return []race.Act{{Thread: d.t, Kind: race.Release, Loc: 2003}}
	}
	return []race.Act{{Thread: d.t, Kind: race.Acquire, Loc: 2003}}
}

// queueActs are those of a push or a pop.
func queueActs(d done, did bool) []race.Act {
	l := []race.Act{{Thread: d.t, Kind: race.Read, Loc: d.at}}
	if did && d.kind == "push" {
		l = append(l, race.Act{Thread: d.t, Kind: race.Acquire, Loc: 2000}, race.Act{Thread: d.t, Kind: race.Release, Loc: 2000})
	}
	if did {
		l = append(l, race.Act{Thread: d.t, Kind: race.Write, Loc: d.at})
	}
	return l
}

// trace are acts of a thread by their text: r, w, a or l (a Release, which lets go), and
// the Loc, with blanks between them.
func trace(thread int, text string) []race.Act {
	var l []race.Act
	for _, word := range strings.Fields(text) {
		loc, _ := strconv.Atoi(word[1:])
		l = append(l, race.Act{Thread: thread, Kind: race.Kind(strings.IndexByte("rwal", word[0])), Loc: loc})
	}
	return l
}

// story is a trace's text, each act with its thread ahead.
func story(l []race.Act) string {
	var s []string
	for _, a := range l {
		s = append(s, strconv.Itoa(a.Thread)+string("rwal"[a.Kind])+strconv.Itoa(a.Loc))
	}
	return strings.Join(s, " ")
}

// ask does a thing to a board: the board behind it, and what it answers.
func ask(b board.Board, d done) (board.Board, answer) {
	var a answer
	switch d.kind {
	case "up":
		b, a.ok = b.Up(d.t)
	case "raise":
		b, a.ok = b.Raise(d.t)
	case "lock":
		b, a.ok = b.Lock(d.t, d.at)
	case "unlock":
		b = b.Unlock(d.t, d.at)
	case "push":
		b, a.err = b.Push(d.t, d.at, d.slot, d.call)
	case "pop":
		b, a.entry, a.ok = b.Pop(d.t, d.at, d.ticket)
	case "seal":
		b = b.Seal(d.t, d.at)
	case "empty":
		b, a.ok = b.Empty(d.t, d.at)
	case "publish":
		b = b.Publish(d.t, d.r)
	case "load":
		var r replica.Replica
		b, r = b.Load(d.t)
		a.r = tale(r)
	case "fill":
		b = b.Fill(d.t, d.at, d.x)
	case "filled":
		b, a.ok = b.Filled(d.t, d.at)
	case "fetch":
		b, a.x = b.Fetch(d.t, d.at)
	case "leave":
		b = b.Leave(d.t)
	case "gone":
		b, a.ok = b.Gone(d.t)
	}
	return b, a
}

// looks are the kinds of which only the acts matter to what comes later.
var looks = []string{"up", "empty", "load", "filled", "fetch", "gone"}

// does is a pair behind a thing, whose answer and whose acts must be the model's.
func (p pair) does(t *testing.T, d done) pair {
	t.Helper()
	want, did := p.m.answers(t, d)
	before := p.b.Trace()
	b, got := ask(p.b, d)
	if got != want {
		t.Fatalf("%+v, behind %s: %+v, not %+v", d, story(before), got, want)
	}
	if told, must := b.Trace(), slices.Concat(before, acts(d, did)); !slices.Equal(told, must) {
		t.Fatalf("%+v: told %s, not %s", d, story(told), story(must))
	}
	next := pair{b, p.m}
	if did && !slices.Contains(looks, d.kind) {
		next.m.l = append(slices.Clip(p.m.l), d)
	}
	return next
}

// stands holds all that a board tells of itself, without acts, against the model.
func (p pair) stands(t *testing.T) {
	t.Helper()
	if n := p.b.Stripes(); n != p.m.stripes {
		t.Fatalf("%d stripes, not %d", n, p.m.stripes)
	}
	for s := range p.m.stripes {
		if got, want := p.b.Holder(s), p.m.holder(s); got != want {
			t.Fatalf("Holder(%d): %d, not %d", s, got, want)
		}
		if got, want := p.b.Queue(s), p.m.queue(s); !slices.Equal(got, want) {
			t.Fatalf("Queue(%d): %+v, not %+v", s, got, want)
		}
	}
}

// holds holds a board against the model: what it tells of itself, and the answer and the
// acts of each call that it could be asked for. It must be the same board behind that.
func (p pair) holds(t *testing.T) {
	t.Helper()
	p.stands(t)
	before := p.b.Trace()
	for _, d := range p.asked(t) {
		p.does(t, d)
	}
	p.stands(t)
	if got := p.b.Trace(); !slices.Equal(got, before) {
		t.Fatalf("the trace became %s, not %s", story(got), story(before))
	}
}

// slots are those of a model's entries and fills, and some others.
func (m model) slots() []int {
	known := map[int]bool{0: true, 1: true, 400: true, 799: true, 800: true}
	for _, d := range m.l {
		switch d.kind {
		case "fill":
			known[d.at] = true
		case "push":
			known[d.slot] = true
		}
	}
	return slices.Sorted(maps.Keys(known))
}

// asked are calls of each kind, of each stripe, and of some slots.
func (p pair) asked(t *testing.T) []done {
	t.Helper()
	l := []done{{kind: "up", t: 15}, {kind: "raise", t: 4}, {kind: "load", t: 5}, {kind: "publish", t: 5, r: fresh(t, 9)},
		{kind: "leave", t: 6}, {kind: "gone", t: 7}}
	for s := range p.m.stripes {
		l = append(l, done{kind: "lock", t: 9, at: s}, done{kind: "unlock", t: 10, at: s},
			done{kind: "push", t: 11, at: s, slot: 77, call: whole()}, done{kind: "seal", t: 13, at: s}, done{kind: "empty", t: 14, at: s})
		tickets := []int{-1, 0, 1, 99}
		for _, x := range p.m.queue(s) {
			tickets = append(tickets, x.Ticket-1, x.Ticket, x.Ticket+1)
		}
		for _, ticket := range tickets {
			l = append(l, done{kind: "pop", t: 12, at: s, ticket: ticket})
		}
	}
	for _, k := range p.m.slots() {
		l = append(l, done{kind: "fill", t: 1, at: k, x: result(8)}, done{kind: "filled", t: 2, at: k}, done{kind: "fetch", t: 3, at: k})
	}
	return l
}

// whole is a call all of whose fields are something.
func whole() replica.Call {
	c := replica.Call{Kind: replica.Where, At: 7, Char: 'é', Anchor: id.ID{Counter: 6, Site: 5}}
	c.Op.Kind, c.Op.ID, c.Op.Anchor, c.Op.Char = 1, id.ID{Counter: 4, Site: 3}, id.ID{Counter: 2, Site: 1}, 'ü'
	return c
}

// result is a Result of a number, with a text.
func result(n int) replica.Result {
	return replica.Result{N: n, Text: "of " + strconv.Itoa(n)}
}
