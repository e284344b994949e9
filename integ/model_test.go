package integ_test

import (
	"reflect"
	"slices"
	"strconv"
	"strings"
	"testing"

	"selvedge/api"
	"selvedge/board"
	"selvedge/event"
	"selvedge/id"
	"selvedge/integ"
	"selvedge/op"
	"selvedge/race"
	"selvedge/replica"
	"selvedge/ring"
	"selvedge/version"
)

// The tests hold an integrator against a model that keeps nothing but which steps it took,
// and reckons all else anew of these; and boards against each other by all that they tell.

// did is a step: its state, whether what was asked there was so, and what was popped.
type did struct {
	state string
	yes   bool
	entry board.Entry
}

// model is an integrator: what it began with, and its steps, on boards of so many stripes.
type model struct {
	t, stripes int
	first      replica.Replica
	sizes      []int
	log        []did
}

// times is how many steps there were in a state.
func (m model) times(state string) int {
	n := 0
	for _, d := range m.log {
		if d.state == state {
			n++
		}
	}
	return n
}

// at is the stripe that it is at: each skip leads one further.
func (m model) at() int { return m.times("skip") % m.stripes }

// finished is how many stripes are.
func (m model) finished() int {
	there, at := map[int]bool{}, 0
	for _, d := range m.log {
		if d.state == "check" && d.yes {
			there[at%m.stripes] = true
		}
		if d.state == "skip" {
			at++
		}
	}
	return len(there)
}

// state is what comes behind the last step.
func (m model) state() string {
	if len(m.log) == 0 {
		return "grab"
	}
	last := m.log[len(m.log)-1]
	choose := func(yes bool, one, other string) string {
		if yes {
			return one
		}
		return other
	}
	switch last.state {
	case "grab":
		return choose(last.yes, "pop", "grab")
	case "pop":
		return choose(last.yes, "drop", "check")
	case "check":
		return "skip"
	case "skip":
		return choose(m.finished() == m.stripes, "leave", "grab")
	case "drop":
		return "apply"
	case "apply":
		return "reply"
	case "reply":
		return "grab"
	}
	return "done"
}

// entries are those that were popped, and came to be applied.
func (m model) entries() []board.Entry {
	var l []board.Entry
	for _, d := range m.log {
		if d.state == "pop" && d.yes {
			l = append(l, d.entry)
		}
	}
	return l[:m.times("apply")]
}

// replica is the one behind all that was applied, what it answered to the last of it, and
// all changes.
func (m model) replica() (replica.Replica, replica.Result, []version.Change) {
	r, x, all := m.first, replica.Result{}, []version.Change{}
	for _, e := range m.entries() {
		_, _, l := r.Changes(e.Call)
		r, x = r.Do(e.Call)
		all = append(all, l...)
	}
	return r, x, all
}

// events are what is in a buffer of a size: the changes, or, where they are too many, all
// but size - 1 of them as a Lag.
func events(size int, l []version.Change) []any {
	all := []any{}
	for i, c := range l {
		if i == size-1 && len(l) > size {
			return append(all, event.Lag{From: c.Seq, To: l[len(l)-1].Seq})
		}
		all = append(all, c)
	}
	return all
}

// popped is the entry that is under way.
func (m model) popped() board.Entry {
	e := board.Entry{}
	for _, d := range m.log {
		if d.state == "pop" && d.yes {
			e = d.entry
		}
	}
	return e
}

// does is the board, and the model, behind a step.
func (m model) does(b board.Board) (board.Board, model) {
	at := m.at()
	m.log = append(slices.Clone(m.log), did{state: m.state()})
	last := &m.log[len(m.log)-1]
	switch last.state {
	case "grab":
		b, last.yes = b.Lock(m.t, at)
	case "pop":
		b, last.entry, last.yes = b.Pop(m.t, at, m.times("reply"))
	case "check":
		b, last.yes = b.Empty(m.t, at)
	case "skip", "drop":
		b = b.Unlock(m.t, at)
	case "apply":
		r, _, _ := m.replica()
		b = b.Publish(m.t, r)
	case "reply":
		_, x, _ := m.replica()
		b = b.Fill(m.t, m.popped().Slot, x)
	case "leave":
		b = b.Leave(m.t)
	}
	return b, m
}

// ready says whether an integrator is ready.
func (m model) ready(b board.Board) bool {
	state := m.state()
	return state != "done" && (state != "grab" || b.Holder(m.at()) == -1)
}

// pair is an integrator, and what it must be.
type pair struct {
	g integ.Integ
	m model
}

// begun is an integrator on a board.
func begun(t *testing.T, thread int, b board.Board, sizes ...int) pair {
	t.Helper()
	g, e := integ.Begin(thread, b, sizes...)
	if e != api.OK {
		t.Fatalf("Begin of %d, with %v: %v", thread, sizes, e)
	}
	_, r := b.Load(0)
	return pair{g, model{t: thread, stripes: b.Stripes(), first: r, sizes: slices.Clone(sizes)}}
}

// stands holds what an integrator tells of itself, and whether it is ready, against the
// model.
func (p pair) stands(t *testing.T, b board.Board) {
	t.Helper()
	state := p.m.state()
	if got := p.g.State(); got != state {
		t.Fatalf("in the state %s, not %s, behind %+v", got, state, p.m.log)
	}
	if got := p.g.Done(); got != (state == "done") {
		t.Fatalf("in %s: Done is %v", state, got)
	}
	if got, want := p.g.Ready(b), p.m.ready(b); got != want {
		t.Fatalf("in %s, behind %s: Ready is %v", state, story(b.Trace()), got)
	}
	if got, want := p.g.Next(), p.m.times("reply"); got != want {
		t.Fatalf("in %s: Next is %d, not %d", state, got, want)
	}
	r, _, l := p.m.replica()
	if got, want := tale(p.g.Replica()), tale(r); got != want {
		t.Fatalf("in %s: the replica is %s, not %s", state, got, want)
	}
	if got := p.g.Changes(); !slices.Equal(got, l) {
		t.Fatalf("in %s: the changes are %+v, not %+v", state, got, l)
	}
	for i := -1; i <= len(p.m.sizes); i++ {
		p.hears(t, i, l)
	}
}

// hears holds a buffer against the changes that there were, and its room against its Size.
func (p pair) hears(t *testing.T, i int, l []version.Change) {
	t.Helper()
	b, size := p.g.Buffer(i), 0
	want := []any{}
	if i >= 0 && i < len(p.m.sizes) {
		size = p.m.sizes[i]
		want = events(size, l)
	}
	if _, got := b.Take(api.MaxRing + 1); !slices.Equal(got, want) {
		t.Fatalf("in the buffer %d of %v stands %+v, not %+v", i, p.m.sizes, got, want)
	}
	if got := room(b); got != size {
		t.Fatalf("the buffer %d of %v has the Size %d", i, p.m.sizes, got)
	}
}

// room is how many events a buffer can have.
func room(b ring.Buffer) int {
	for n := range int64(api.MaxRing + 1) {
		b = b.Put(version.Change{Seq: n})
	}
	return b.Len()
}

// step is a board, and a pair, behind a step: the board and the integrator are the model's,
// and those ahead of it are as they were.
func (p pair) step(t *testing.T, b board.Board) (board.Board, pair) {
	t.Helper()
	before := tell(b)
	want, m := p.m.does(b)
	got, g := p.g.Step(b)
	p.stands(t, b)
	same(t, b, before)
	same(t, got, tell(want))
	next := pair{g, m}
	next.stands(t, got)
	return got, next
}

// stripe is what a board tells of a stripe, and what it would have to say to one more.
type stripe struct {
	holder int
	queue  []board.Entry
	next   board.Entry
	err    api.Errno
	empty  bool
}

// all is all that a board tells.
type all struct {
	stripes  []stripe
	up, gone bool
	slots    map[int]replica.Result
	replica  string
	trace    []race.Act
}

// tell is all that a board tells, of slots those that its trace has.
func tell(b board.Board) all {
	a := all{slots: map[int]replica.Result{}, trace: b.Trace()}
	for s := range b.Stripes() {
		x := stripe{holder: b.Holder(s), queue: b.Queue(s)}
		var c board.Board
		c, x.err = b.Push(0, s, 0, replica.Call{})
		if l := c.Queue(s); len(l) > 0 {
			x.next = l[len(l)-1]
		}
		_, x.empty = b.Empty(0, s)
		a.stripes = append(a.stripes, x)
	}
	_, a.up = b.Up(0)
	_, a.gone = b.Gone(0)
	_, r := b.Load(0)
	a.replica = tale(r)
	for _, x := range a.trace {
		k := x.Loc - 100
		if _, filled := b.Filled(0, k); filled {
			_, a.slots[k] = b.Fetch(0, k)
		}
	}
	return a
}

// same holds all that a board tells against what it must.
func same(t *testing.T, b board.Board, want all) {
	t.Helper()
	if got := tell(b); !reflect.DeepEqual(got, want) {
		t.Fatalf("the board tells %+v, not %+v; its trace is %s, not %s", got, want, story(got.trace), story(want.trace))
	}
}

// tale is what a replica tells of itself, and the operation that it would make.
func tale(r replica.Replica) string {
	v := r.Version()
	return strings.Join([]string{strconv.FormatBool(r.Closed()), v.Text(), strconv.FormatInt(v.Seq(), 10), v.Tally().String(),
		strconv.Itoa(len(v.Waiting())), r.Look(replica.Call{Char: 'a'}).Text}, "; ")
}

// story is a trace's text: of each act the thread, r, w, a or l (a Release, which lets go),
// and the Loc.
func story(l []race.Act) string {
	var s []string
	for _, a := range l {
		s = append(s, strconv.Itoa(a.Thread)+string("rwal"[a.Kind])+strconv.Itoa(a.Loc))
	}
	return strings.Join(s, " ")
}

// fresh is a new board.
func fresh(t *testing.T, site, stripes, room int) board.Board {
	t.Helper()
	b, e := board.New(site, stripes, room)
	if e != api.OK {
		t.Fatalf("New(%d, %d, %d): %v", site, stripes, room, e)
	}
	return b
}

// ofText is a replica of a Site that has a text.
func ofText(t *testing.T, site int, text string) replica.Replica {
	t.Helper()
	r, e := replica.New(site)
	if e != api.OK {
		t.Fatal(site, e)
	}
	for at, c := range []rune(text) {
		var x replica.Result
		if r, x = r.Do(replica.Call{At: at, Char: c}); x.Err != api.OK {
			t.Fatal(text, x)
		}
	}
	return r
}

// remote is the Apply of an Insert of an id, behind another one's, or None's.
func remote(counter int64, site int, behind id.ID, char rune) replica.Call {
	return replica.Call{Kind: replica.Apply, Op: op.Op{Kind: op.Insert, ID: id.ID{Counter: counter, Site: site}, Anchor: behind, Char: char}}
}

// calls are calls of a number each, all of which others may leave in a queue: such as lead
// to a change, to several, to none, to an Err, and such as only look, or close.
func calls() []replica.Call {
	first, second := id.ID{Counter: 5, Site: 2}, id.ID{Counter: 6, Site: 2}
	return []replica.Call{
		{Char: 'a'},
		{Kind: replica.Delete},
		{At: 1, Char: 'é'},
		{At: 99, Char: 'b'},
		{Char: -1},
		remote(7, 2, second, 'z'),
		remote(6, 2, first, 'y'),
		remote(5, 2, id.ID{}, 'x'),
		{Kind: replica.Apply, Op: op.Op{Kind: op.Delete, ID: first}},
		{Kind: replica.Read, At: -7},
		{Kind: replica.Snapshot},
		{Kind: replica.Mark, At: 1},
		{Kind: replica.Where, Anchor: first},
		{Kind: replica.Kind(9)},
		{Kind: replica.Close},
	}
}
