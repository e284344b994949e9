package client_test

import (
	"reflect"
	"slices"
	"strconv"
	"strings"
	"testing"

	"selvedge/api"
	"selvedge/board"
	"selvedge/client"
	"selvedge/id"
	"selvedge/op"
	"selvedge/race"
	"selvedge/replica"
)

// The tests hold a call on its way against a model that keeps the row of states which the
// call goes through yet, if nothing refuses it; and boards against each other by all that
// they tell.

// model is a call, and its row of states, from the one in which it is.
type model struct {
	t, slot int
	call    replica.Call
	row     []string
	x       replica.Result // what it answers in the end, as far as that is known
}

// row are all states of a call, on a board of so many stripes.
func row(k replica.Kind, stripes int) []string {
	switch k {
	case replica.Insert, replica.Delete, replica.Apply:
		return strings.Fields("start lock push free wait fetch done")
	case replica.Read, replica.Len, replica.Mark, replica.Where, replica.Snapshot:
		return strings.Fields("start look done")
	case replica.Close:
		return strings.Fields("start" + strings.Repeat(" shut seal open", stripes) + " away done")
	}
	return strings.Fields("start done")
}

// ends is a model that is done, with an error.
func (m model) ends(e api.Errno) model {
	m.row, m.x = []string{"done"}, replica.Result{Err: e}
	return m
}

// home is the stripe in which a write waits.
func (m model) home(b board.Board) int { return m.t % b.Stripes() }

// at is the stripe that a Close is at: as many are open yet as opens are to come.
func (m model) at(b board.Board) int {
	n := b.Stripes()
	for _, s := range m.row {
		if s == "open" {
			n--
		}
	}
	return n
}

// starts is the board, and the model, behind a first step.
func (m model) starts(b board.Board) (board.Board, model) {
	closed := false
	switch {
	case len(m.row) == 2:
		return b, m.ends(api.ErrForm)
	case m.call.Kind == replica.Close:
		var down bool
		b, down = b.Raise(m.t)
		closed = !down
	default:
		b, closed = b.Up(m.t)
	}
	if closed {
		return b, m.ends(api.ErrClosed)
	}
	m.row = m.row[1:]
	return b, m
}

// does is the board, and the model, behind a step.
func (m model) does(b board.Board) (board.Board, model) {
	ok := true
	var r replica.Replica
	switch m.row[0] {
	case "start":
		return m.starts(b)
	case "lock":
		b, ok = b.Lock(m.t, m.home(b))
	case "push":
		b, m.x.Err = b.Push(m.t, m.home(b), m.slot, m.call)
	case "free":
		b = b.Unlock(m.t, m.home(b))
		if m.x.Err != api.OK {
			return b, m.ends(m.x.Err)
		}
	case "wait":
		b, ok = b.Filled(m.t, m.slot)
	case "fetch":
		b, m.x = b.Fetch(m.t, m.slot)
	case "look":
		b, r = b.Load(m.t)
		m.x = r.Look(m.call)
	case "shut":
		b, ok = b.Lock(m.t, m.at(b))
	case "seal":
		b = b.Seal(m.t, m.at(b))
	case "open":
		b = b.Unlock(m.t, m.at(b))
	case "away":
		b, ok = b.Gone(m.t)
	case "done":
		ok = false
	}
	if ok {
		m.row = m.row[1:]
	}
	return b, m
}

// ready says whether a call is ready.
func (m model) ready(b board.Board) bool {
	ok := m.row[0] != "done"
	switch m.row[0] {
	case "lock":
		ok = b.Holder(m.home(b)) == -1
	case "shut":
		ok = b.Holder(m.at(b)) == -1
	case "wait":
		_, ok = b.Filled(0, m.slot)
	case "away":
		_, ok = b.Gone(0)
	}
	return ok
}

// result is what a call answers: nothing, ahead of its end.
func (m model) result() replica.Result {
	if m.row[0] != "done" {
		return replica.Result{}
	}
	return m.x
}

// pair is a call on its way, and what it must be.
type pair struct {
	w client.Way
	m model
}

// begun is a call on its way, that goes on on boards of so many stripes.
func begun(t, slot int, c replica.Call, stripes int) pair {
	return pair{client.Begin(t, slot, c), model{t: t, slot: slot, call: c, row: row(c.Kind, stripes)}}
}

// stands holds what a call tells of itself, and whether it is ready, against the model.
func (p pair) stands(t *testing.T, b board.Board) {
	t.Helper()
	if got, want := p.w.State(), p.m.row[0]; got != want {
		t.Fatalf("%+v: in the state %s, not %s", p.m.call, got, want)
	}
	if got, want := p.w.Done(), p.m.row[0] == "done"; got != want {
		t.Fatalf("%+v in %s: Done is %v", p.m.call, p.m.row[0], got)
	}
	if got, want := p.w.Result(), p.m.result(); got != want {
		t.Fatalf("%+v in %s: %+v, not %+v", p.m.call, p.m.row[0], got, want)
	}
	if got, want := p.w.Ready(b), p.m.ready(b); got != want {
		t.Fatalf("%+v in %s, behind %s: Ready is %v", p.m.call, p.m.row[0], story(b.Trace()), got)
	}
}

// step is a board, and a pair, behind a step: the board and the call are the model's, and
// those ahead of it are as they were.
func (p pair) step(t *testing.T, b board.Board) (board.Board, pair) {
	t.Helper()
	before := tell(b, p.m.slot)
	want, m := p.m.does(b)
	got, w := p.w.Step(b)
	p.stands(t, b)
	same(t, b, before, p.m.slot)
	same(t, got, tell(want, p.m.slot), p.m.slot)
	next := pair{w, m}
	next.stands(t, got)
	return got, next
}

// stripe is what a board tells of a stripe, and what it would have to say to one more.
type stripe struct {
	holder int
	queue  []board.Entry
	next   board.Entry
	err    api.Errno
	empty  bool
}

// all is all that a board tells.
type all struct {
	stripes  []stripe
	up, gone bool
	slots    map[int]replica.Result
	replica  string
	trace    []race.Act
}

// tell is all that a board tells, of a slot, and of those that its trace has.
func tell(b board.Board, slot int) all {
	a := all{slots: map[int]replica.Result{}, trace: b.Trace()}
	for s := range b.Stripes() {
		x := stripe{holder: b.Holder(s), queue: b.Queue(s)}
		var c board.Board
		c, x.err = b.Push(0, s, 0, replica.Call{})
		if l := c.Queue(s); len(l) > 0 {
			x.next = l[len(l)-1]
		}
		_, x.empty = b.Empty(0, s)
		a.stripes = append(a.stripes, x)
	}
	_, a.up = b.Up(0)
	_, a.gone = b.Gone(0)
	_, r := b.Load(0)
	a.replica = tale(r)
	for _, k := range slotsOf(a.trace, slot) {
		if _, filled := b.Filled(0, k); filled {
			_, a.slots[k] = b.Fetch(0, k)
		}
	}
	return a
}

// slotsOf are the slots that acts filled, and one more.
func slotsOf(l []race.Act, slot int) []int {
	slots := []int{slot}
	for _, a := range l {
		if k := a.Loc - 100; a.Kind == race.Write && k >= 0 && k <= 800 && !slices.Contains(slots, k) {
			slots = append(slots, k)
		}
	}
	return slots
}

// same holds all that a board tells against what it must.
func same(t *testing.T, b board.Board, want all, slot int) {
	t.Helper()
	if got := tell(b, slot); !reflect.DeepEqual(got, want) {
		t.Fatalf("the board tells %+v, not %+v; its trace is %s, not %s", got, want, story(got.trace), story(want.trace))
	}
}

// tale is what a replica tells of itself, and the operation that it would make.
func tale(r replica.Replica) string {
	return strings.Join([]string{strconv.FormatBool(r.Closed()), r.Version().Text(), r.Version().Tally().String(),
		r.Look(replica.Call{Char: 'a'}).Text}, "; ")
}

// story is a trace's text: of each act the thread, r, w, a or l (a Release, which lets go),
// and the Loc.
func story(l []race.Act) string {
	var s []string
	for _, a := range l {
		s = append(s, strconv.Itoa(a.Thread)+string("rwal"[a.Kind])+strconv.Itoa(a.Loc))
	}
	return strings.Join(s, " ")
}

// fresh is a new board.
func fresh(t *testing.T, site, stripes, room int) board.Board {
	t.Helper()
	b, e := board.New(site, stripes, room)
	if e != api.OK {
		t.Fatalf("New(%d, %d, %d): %v", site, stripes, room, e)
	}
	return b
}

// ofText is a replica of a Site that has a text.
func ofText(t *testing.T, site int, text string) replica.Replica {
	t.Helper()
	r, e := replica.New(site)
	if e != api.OK {
		t.Fatal(site, e)
	}
	for at, c := range []rune(text) {
		var x replica.Result
		if r, x = r.Do(replica.Call{At: at, Char: c}); x.Err != api.OK {
			t.Fatal(text, x)
		}
	}
	return r
}

// kinds are all kinds that there are.
func kinds() []replica.Kind {
	return []replica.Kind{replica.Insert, replica.Delete, replica.Apply, replica.Read, replica.Len, replica.Mark, replica.Where,
		replica.Snapshot, replica.Close}
}

// whole is a call of a kind, all of whose fields are something.
func whole(k replica.Kind) replica.Call {
	return replica.Call{Kind: k, At: 1, Char: 'é', Anchor: id.ID{Counter: 2, Site: 7},
		Op: op.Op{Kind: op.Insert, ID: id.ID{Counter: 4, Site: 3}, Anchor: id.ID{Counter: 2, Site: 7}, Char: 'ü'}}
}
