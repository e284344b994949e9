package board_test

import (
	"math"
	"reflect"
	"slices"
	"strconv"
	"strings"
	"testing"

	"selvedge/api"
	"selvedge/board"
	"selvedge/id"
	"selvedge/race"
	"selvedge/replica"
)

// numbers are those of words.
func numbers(t *testing.T, words []string) []int {
	t.Helper()
	l := make([]int, 4)
	for i, w := range words {
		n, e := strconv.Atoi(w)
		if e != nil {
			t.Fatalf("no number: %q", w)
		}
		l[i] = n
	}
	return l
}

// deed is what a text tells of: a thread, a kind, and what that needs. Of a push that is
// the stripe, the slot, and where the call inserts; of a fill the slot, and its result's
// number; of a publish the replica's Site.
func deed(t *testing.T, text string) done {
	t.Helper()
	words := strings.Fields(text)
	l := numbers(t, append(words[:1:1], words[2:]...))
	d := done{kind: words[1], t: l[0]}
	switch d.kind {
	case "publish":
		d.r = fresh(t, l[1])
	case "fill":
		d.at, d.x = l[1], result(l[2])
	case "push":
		d.at, d.slot, d.call = l[1], l[2], replica.Call{Kind: replica.Insert, At: l[3]}
	case "pop":
		d.at, d.ticket = l[1], l[2]
	default:
		d.at = l[1]
	}
	return d
}

// deeds are those of texts, with commas between them.
func deeds(t *testing.T, text string) []done {
	t.Helper()
	var l []done
	for _, s := range strings.Split(text, ", ") {
		if s != "" {
			l = append(l, deed(t, s))
		}
	}
	return l
}

// behind is a pair behind deeds.
func behind(t *testing.T, p pair, text string) pair {
	t.Helper()
	for _, d := range deeds(t, text) {
		p = p.does(t, d)
	}
	return p
}

// Deeds that the tables lead from.
const (
	two     = "3 push 0 5 10, 4 push 1 6 11"
	line    = "3 push 1 5 10, 4 push 1 6 11"
	sealed  = "3 push 0 5 10, 4 seal 0"
	emptied = "3 push 0 5 10, 4 pop 0 0"
	filled  = "3 fill 5 41, 4 fill 6 42"
)

// TestP151Table has each row of the chapter's table, written out: what is answered, and
// which acts there are. Boards have two stripes, of the room 2, and the Site 7.
func TestP151Table(t *testing.T) {
	yes, no, none := answer{ok: true}, answer{}, answer{}
	entry := func(ticket, slot, at int) answer {
		return answer{ok: true, entry: board.Entry{Ticket: ticket, Slot: slot, Call: replica.Call{At: at}}}
	}
	of := func(site int) answer { return answer{r: tale(fresh(t, site))} }
	ok, closed, busy := answer{}, answer{err: api.ErrClosed}, answer{err: api.ErrBusy}
	for _, c := range []struct {
		ahead, deed string
		want        answer
		acts        string
	}{
		{"", "3 up", no, "a2001"},
		{"0 raise", "3 up", yes, "a2001"},
		{"0 raise, 0 raise", "3 up", yes, "a2001"},
		{"0 up, 0 leave, 0 seal 0, 0 lock 0", "3 up", no, "a2001"},
		{"", "3 raise", yes, "a2001 l2001"},
		{"3 raise", "3 raise", no, "a2001 l2001"},
		{"0 raise", "3 raise", no, "a2001 l2001"},
		{"0 up", "3 raise", yes, "a2001 l2001"},

		{"", "3 lock 0", yes, "a1000"},
		{"", "3 lock 1", yes, "a1001"},
		{"0 lock 1", "3 lock 0", yes, "a1000"},
		{"0 lock 0", "3 lock 0", no, ""},
		{"3 lock 0", "3 lock 0", no, ""},
		{"0 lock 0, 0 unlock 0", "3 lock 0", yes, "a1000"},
		{"0 lock 0, 0 unlock 1", "3 lock 0", no, ""},
		{"0 lock 0, 5 unlock 0", "3 lock 0", yes, "a1000"},
		{"0 lock 0, 3 lock 0, 0 unlock 0", "3 lock 0", yes, "a1000"},
		{"0 seal 0, 0 leave, 0 raise", "3 lock 0", yes, "a1000"},
		{"0 lock 0", "0 unlock 0", none, "l1000"},
		{"0 lock 1", "0 unlock 1", none, "l1001"},
		{"0 lock 0", "3 unlock 0", none, "l1000"},
		{"", "3 unlock 0", none, "l1000"},

		{"", "3 push 0 5 10", ok, "r0 a2000 l2000 w0"},
		{"", "3 push 1 5 10", ok, "r1 a2000 l2000 w1"},
		{"0 push 0 5 10", "3 push 0 5 10", ok, "r0 a2000 l2000 w0"},
		{line, "3 push 1 5 10", busy, "r1"},
		{line, "3 push 0 5 10", ok, "r0 a2000 l2000 w0"},
		{line + ", 0 pop 1 0", "3 push 1 5 10", ok, "r1 a2000 l2000 w1"},
		{line + ", 0 pop 1 1", "3 push 1 5 10", busy, "r1"},
		{"0 seal 0", "3 push 0 5 10", closed, "r0"},
		{"0 seal 0", "3 push 1 5 10", ok, "r1 a2000 l2000 w1"},
		{line + ", 0 seal 1", "3 push 1 5 10", closed, "r1"},
		{sealed + ", 0 pop 0 0", "3 push 0 5 10", closed, "r0"},
		{"0 raise, 0 leave, 0 lock 0", "3 push 0 5 10", ok, "r0 a2000 l2000 w0"},

		{"", "3 pop 0 0", no, "r0"},
		{two, "3 pop 0 0", entry(0, 5, 10), "r0 w0"},
		{two, "3 pop 1 1", entry(1, 6, 11), "r1 w1"},
		{two, "3 pop 0 1", no, "r0"},
		{two, "3 pop 1 0", no, "r1"},
		{two, "3 pop 0 -1", no, "r0"},
		{line, "3 pop 1 0", entry(0, 5, 10), "r1 w1"},
		{line, "3 pop 1 1", no, "r1"},
		{line, "3 pop 1 2", no, "r1"},
		{line + ", 3 pop 1 0", "3 pop 1 0", no, "r1"},
		{line + ", 3 pop 1 0", "3 pop 1 1", entry(1, 6, 11), "r1 w1"},
		{line + ", 3 pop 1 0, 3 pop 1 1", "3 pop 1 2", no, "r1"},
		{line + ", 3 pop 1 0, 3 push 1 7 12, 3 pop 1 1", "3 pop 1 2", entry(2, 7, 12), "r1 w1"},
		{sealed, "3 pop 0 0", entry(0, 5, 10), "r0 w0"},
		{emptied + ", 3 push 0 7 12", "3 pop 0 0", no, "r0"},
		{emptied + ", 3 push 0 7 12", "3 pop 0 1", entry(1, 7, 12), "r0 w0"},

		{"", "3 seal 0", none, "w0"},
		{"", "3 seal 1", none, "w1"},
		{"3 seal 1", "3 seal 1", none, "w1"},
		{line, "3 seal 1", none, "w1"},
		{"", "3 empty 0", no, "r0"},
		{"3 seal 0", "3 empty 0", yes, "r0"},
		{"3 seal 1", "3 empty 1", yes, "r1"},
		{"3 seal 1", "3 empty 0", no, "r0"},
		{"3 seal 0", "3 empty 1", no, "r1"},
		{two, "3 empty 0", no, "r0"},
		{sealed, "3 empty 0", no, "r0"},
		{emptied, "3 empty 0", no, "r0"},
		{sealed + ", 3 pop 0 1", "3 empty 0", no, "r0"},
		{sealed + ", 3 pop 0 0", "3 empty 0", yes, "r0"},
		{emptied + ", 3 seal 0", "3 empty 0", yes, "r0"},
		{sealed + ", 3 pop 0 0, 3 push 0 5 10", "3 empty 0", yes, "r0"},

		{"", "3 load", of(7), "a2002"},
		{"", "3 publish 8", none, "l2002"},
		{"0 publish 8", "3 load", of(8), "a2002"},
		{"0 publish 8, 1 publish 9", "3 load", of(9), "a2002"},
		{"0 publish 8, 1 publish 7", "3 load", of(7), "a2002"},
		{"0 publish 8, 1 load", "3 load", of(8), "a2002"},

		{"", "3 fill 5 41", none, "w105 l3005"},
		{"", "3 fill 0 41", none, "w100 l3000"},
		{"", "3 fill 800 41", none, "w900 l3800"},
		{filled, "3 fill 5 43", none, "w105 l3005"},
		{"", "3 filled 5", no, "a3005"},
		{"", "3 filled 0", no, "a3000"},
		{"", "3 filled 800", no, "a3800"},
		{filled, "3 filled 5", yes, "a3005"},
		{filled, "3 filled 6", yes, "a3006"},
		{filled, "3 filled 7", no, "a3007"},
		{"0 fill 0 41", "3 filled 0", yes, "a3000"},
		{"0 fill 800 41", "3 filled 800", yes, "a3800"},
		{"0 fill 800 41", "3 filled 799", no, "a3799"},
		{two, "3 filled 5", no, "a3005"},
		{"", "3 fetch 5", none, "r105"},
		{filled, "3 fetch 5", answer{x: result(41)}, "r105"},
		{filled, "3 fetch 6", answer{x: result(42)}, "r106"},
		{filled, "3 fetch 7", none, "r107"},
		{filled + ", 0 fetch 5", "3 fetch 5", answer{x: result(41)}, "r105"},
		{filled + ", 0 fill 5 43", "3 fetch 5", answer{x: result(43)}, "r105"},
		{filled + ", 0 fill 5 43", "3 fetch 6", answer{x: result(42)}, "r106"},
		{"0 fill 0 41", "3 fetch 0", answer{x: result(41)}, "r100"},
		{"0 fill 800 41", "3 fetch 800", answer{x: result(41)}, "r900"},

		{"", "3 leave", none, "l2003"},
		{"3 leave", "3 leave", none, "l2003"},
		{"", "3 gone", no, "a2003"},
		{"0 leave", "3 gone", yes, "a2003"},
		{"0 leave, 1 leave", "3 gone", yes, "a2003"},
		{"0 raise, 0 seal 0, 0 seal 1", "3 gone", no, "a2003"},
	} {
		t.Run(c.deed+" behind "+c.ahead, func(t *testing.T) {
			p := behind(t, begun(t, 7, 2, 2), c.ahead)
			d, before := deed(t, c.deed), p.b.Trace()
			b, got := ask(p.b, d)
			if got != c.want {
				t.Errorf("%+v, not %+v", got, c.want)
			}
			told, must := b.Trace(), slices.Concat(before, trace(d.t, c.acts))
			if !slices.Equal(told, must) {
				t.Errorf("%s, not %s", story(told), story(must))
			}
			p.holds(t)
			p.does(t, d).holds(t)
		})
	}
}

// TestP151Example has the document's example.
func TestP151Example(t *testing.T) {
	b := begun(t, 1, 1, 1).b
	c, ok := b.Lock(0, 0)
	if !ok || c.Holder(0) != 0 {
		t.Error(ok, c.Holder(0))
	}
	if d, ok := c.Lock(1, 0); ok || d.Holder(0) != 0 {
		t.Error(ok, d.Holder(0))
	}
}

// TestP151First: what a board is at first, of each number of stripes, and of each room.
func TestP151First(t *testing.T) {
	for stripes := 1; stripes <= api.MaxStripes; stripes++ {
		for room := 1; room <= api.MaxQueue; room++ {
			p := begun(t, 1+stripes*room, stripes, room)
			p.holds(t)
			if l := p.b.Trace(); len(l) != 0 {
				t.Errorf("New(_, %d, %d): %s", stripes, room, story(l))
			}
			for s := range stripes {
				if p.b.Holder(s) != -1 || len(p.b.Queue(s)) != 0 {
					t.Errorf("New(_, %d, %d), stripe %d: %d, %v", stripes, room, s, p.b.Holder(s), p.b.Queue(s))
				}
			}
		}
	}
	for _, site := range []int{1, 2, 999, api.MaxSite} {
		_, r := begun(t, site, 1, 1).b.Load(0)
		if r.Closed() || r.Version().Text() != "" || r.Look(replica.Call{Kind: replica.Insert, Char: 'a'}).Text != "+1."+strconv.Itoa(site)+" - 61" {
			t.Errorf("New(%d, 1, 1): %s", site, tale(r))
		}
	}
}

// TestP151NewRefuses: stripes, rooms and Sites that may not be, alone and together.
func TestP151NewRefuses(t *testing.T) {
	wrong := func(most int) []int {
		return []int{0, -1, most + 1, most + 2, math.MinInt, math.MaxInt, math.MinInt + 1, 1 << 32, 1<<32 + 1, -1 << 32}
	}
	type numbers struct{ site, stripes, room int }
	var l []numbers
	for _, n := range wrong(api.MaxSite) {
		l = append(l, numbers{n, 1, 1}, numbers{n, 8, 16}, numbers{n, 0, 0}, numbers{n, 9, 17})
	}
	for _, n := range wrong(api.MaxStripes) {
		l = append(l, numbers{1, n, 1}, numbers{1000, n, 16}, numbers{1001, n, 1}, numbers{1, n, 0})
	}
	for _, n := range wrong(api.MaxQueue) {
		l = append(l, numbers{1, 1, n}, numbers{1000, 8, n}, numbers{0, 1, n}, numbers{1, 9, n})
	}
	for _, c := range l {
		b, e := board.New(c.site, c.stripes, c.room)
		if e != api.ErrRange || !reflect.DeepEqual(b, board.Board{}) {
			t.Errorf("New(%d, %d, %d): %v", c.site, c.stripes, c.room, e)
		}
	}
}

// TestP151Rooms: a queue of each room takes so many entries, and no more, whatever the
// others have; popped ones leave room.
func TestP151Rooms(t *testing.T) {
	for room := 1; room <= api.MaxQueue; room++ {
		p := begun(t, 1, 3, room)
		for s := range 3 {
			for n := range room + 2 {
				d := done{kind: "push", t: 2, at: s, slot: n, call: replica.Call{At: n}}
				if p = p.does(t, d); len(p.b.Queue(s)) != min(n+1, room) {
					t.Fatalf("room %d, behind %d pushes: %d", room, n+1, len(p.b.Queue(s)))
				}
			}
		}
		p.stands(t)
		for s := range 3 {
			for n := range room {
				p = p.does(t, done{kind: "pop", t: 2, at: s, ticket: s*room + n})
				p = p.does(t, done{kind: "push", t: 2, at: s, slot: n, call: replica.Call{At: n}})
				p = p.does(t, done{kind: "push", t: 2, at: s, slot: n, call: replica.Call{At: n}})
				p.stands(t)
			}
		}
		p.holds(t)
	}
}

// TestP151Tickets: tickets rise by 1 over all stripes; a push that is refused has none.
func TestP151Tickets(t *testing.T) {
	p := begun(t, 1, 4, 2)
	p = behind(t, p, "0 push 2 1 0, 0 push 0 2 0, 0 push 2 3 0, 0 push 2 4 0, 0 seal 1, 0 push 1 5 0, 0 push 3 6 0, 0 pop 2 0, 0 push 2 7 0")
	for s, want := range [][]int{{1}, nil, {2, 4}, {3}} {
		var got []int
		for _, x := range p.b.Queue(s) {
			got = append(got, x.Ticket)
		}
		if !slices.Equal(got, want) {
			t.Errorf("stripe %d: %v, not %v", s, got, want)
		}
	}
	p.holds(t)
}

// TestP151EachThread: whoever the thread is, from 0 to 15, its lock and its acts are its.
func TestP151EachThread(t *testing.T) {
	for thread := range 16 {
		p := begun(t, 1, 8, 2)
		for s := range 8 {
			p = p.does(t, done{kind: "lock", t: thread, at: s})
			if p.b.Holder(s) != thread {
				t.Errorf("thread %d has stripe %d: %d", thread, s, p.b.Holder(s))
			}
		}
		for _, d := range p.asked(t) {
			d.t = thread
			p = p.does(t, d)
		}
		for _, a := range p.b.Trace() {
			if a.Thread != thread {
				t.Fatalf("thread %d: %+v", thread, a)
			}
		}
		p.holds(t)
	}
}

// TestP151EachStripe: what is done to one stripe is done to no other one.
func TestP151EachStripe(t *testing.T) {
	n := strconv.Itoa
	for s := range 8 {
		p := begun(t, 1, 8, 2)
		for other := range 8 {
			if other != s {
				p.does(t, done{kind: "seal", at: other}).holds(t)
			}
		}
		p = behind(t, p, "1 lock "+n(s)+", 1 push "+n(s)+" 4 9, 1 seal "+n(s))
		p.holds(t)
		p = behind(t, p, "1 pop "+n(s)+" 0, 1 unlock "+n(s))
		p.holds(t)
		if _, empty := p.b.Empty(0, s); !empty {
			t.Errorf("stripe %d isn't", s)
		}
	}
}

// TestP151EachSlot: each slot has a Result of its own.
func TestP151EachSlot(t *testing.T) {
	b := begun(t, 1, 1, 1).b
	for n := range 801 {
		k := n * 577 % 801
		if _, filled := b.Filled(1, k); filled {
			t.Fatalf("slot %d is filled", k)
		}
		if _, x := b.Fetch(1, k); x != (replica.Result{}) {
			t.Fatalf("slot %d: %+v", k, x)
		}
		b = b.Fill(1, k, result(k))
	}
	var want []race.Act
	for n := range 801 {
		k := n * 577 % 801
		want = append(want, trace(1, "w"+strconv.Itoa(100+k)+" l"+strconv.Itoa(3000+k))...)
	}
	if !slices.Equal(b.Trace(), want) {
		t.Fatal("the trace of all slots")
	}
	for k := range 801 {
		c, filled := b.Filled(2, k)
		c, x := c.Fetch(2, k)
		if !filled || x != result(k) {
			t.Fatalf("slot %d: %v, %+v", k, filled, x)
		}
		if l := c.Trace()[len(want):]; !slices.Equal(l, trace(2, "a"+strconv.Itoa(3000+k)+" r"+strconv.Itoa(100+k))) {
			t.Fatalf("slot %d: %s", k, story(l))
		}
	}
}

// TestP151Results: a slot keeps all of a Result, the zero one and those with an Err, too:
// filled is what it is then.
func TestP151Results(t *testing.T) {
	for _, x := range []replica.Result{{}, {Err: api.ErrClosed}, {N: -1}, {N: math.MaxInt, Text: "a"}, {Text: "\xff\x00é"}, {Err: api.ErrRange, N: math.MinInt, Text: "b"}} {
		p := begun(t, 1, 1, 1).does(t, done{kind: "fill", t: 1, at: 3, x: x})
		_, filled := p.b.Filled(1, 3)
		if _, y := p.b.Fetch(1, 3); !filled || y != x {
			t.Errorf("%+v: %v, %+v", x, filled, y)
		}
		p.holds(t)
		p.does(t, done{kind: "fill", t: 1, at: 3, x: result(5)}).holds(t)
		p.does(t, done{kind: "fill", t: 1, at: 3}).holds(t)
	}
}

// TestP151Calls: an entry keeps all of a call, whatever it is.
func TestP151Calls(t *testing.T) {
	for _, c := range []replica.Call{{}, whole(), {Kind: 9}, {Kind: -1}, {Kind: replica.Read}, {Kind: replica.Close}, {At: math.MinInt}, {Char: -1}, {Anchor: id.ID{Counter: -1, Site: math.MaxInt}}} {
		p := begun(t, 1, 2, 2)
		p = p.does(t, done{kind: "push", t: 1, at: 1, slot: 800, call: c})
		if want := (board.Entry{Ticket: 0, Slot: 800, Call: c}); !slices.Equal(p.b.Queue(1), []board.Entry{want}) {
			t.Errorf("%+v, not %+v", p.b.Queue(1), want)
		}
		p.holds(t)
		_, x, ok := p.b.Pop(1, 1, 0)
		if !ok || x.Call != c || x.Slot != 800 || x.Ticket != 0 {
			t.Errorf("%+v", x)
		}
	}
}

// TestP151Published: a board keeps the replica that was published, closed ones and the
// zero one, too.
func TestP151Published(t *testing.T) {
	open, _ := fresh(t, 3).Do(replica.Call{Kind: replica.Insert, Char: 'q'})
	closed, _ := open.Do(replica.Call{Kind: replica.Close})
	p := begun(t, 1, 1, 1)
	for _, r := range []replica.Replica{open, closed, {}, fresh(t, 4), open} {
		p = p.does(t, done{kind: "publish", t: 1, r: r})
		if _, got := p.b.Load(2); tale(got) != tale(r) {
			t.Errorf("%s, not %s", tale(got), tale(r))
		}
		p.holds(t)
	}
}

// wild are numbers that are no thread's, no stripe's, or no slot's, and some that are.
func wild() []int {
	return []int{0, 1, 7, 15, -1, 8, 16, 801, 1000, -101, -1000, 1 << 32, -1 << 32, math.MaxInt, math.MinInt, math.MaxInt - 100, math.MaxInt - 1000, math.MinInt + 1}
}

// wildly does all calls with all wild numbers, each to the same board.
func wildly(b board.Board) {
	for _, at := range wild() {
		b.Holder(at)
		b.Queue(at)
		for _, thread := range wild() {
			for _, kind := range []string{"up", "raise", "lock", "unlock", "push", "pop", "seal", "empty", "publish", "load", "fill", "filled", "fetch", "leave", "gone"} {
				for _, n := range wild() {
					c, _ := ask(b, done{kind: kind, t: thread, at: at, slot: n, ticket: n, call: replica.Call{Kind: replica.Kind(n), At: n}})
					c.Trace()
					c.Holder(at)
					c.Queue(at)
					c.Stripes()
				}
			}
		}
	}
}

// TestR1WildNumbers: whatever the numbers are, calls end, without a panic, and leave the
// board as it was; of the zero board, too.
func TestR1WildNumbers(t *testing.T) {
	wildly(board.Board{})
	for _, ahead := range []string{"", two, line + ", 1 lock 0", sealed + ", " + filled} {
		p := behind(t, begun(t, 3, 2, 2), ahead)
		wildly(p.b)
		p.holds(t)
	}
	p := begun(t, 3, 8, 16)
	wildly(p.b)
	p.holds(t)
}

// TestR1WildRows: wild calls, one behind the other.
func TestR1WildRows(t *testing.T) {
	for _, b := range []board.Board{{}, begun(t, 1, 2, 2).b} {
		for _, n := range wild() {
			for _, at := range wild() {
				for _, kind := range []string{"lock", "push", "seal", "pop", "empty", "fill", "filled", "fetch", "raise", "publish", "leave", "unlock"} {
					b, _ = ask(b, done{kind: kind, t: n, at: at, slot: at, ticket: n, call: whole(), x: result(n)})
				}
			}
		}
		b.Trace()
	}
}

// TestR3HandedOut: who writes into what was handed out, or behind its end, writes into no
// board, and into nothing else that was handed out.
func TestR3HandedOut(t *testing.T) {
	for _, ahead := range []string{"", two, line, line + ", 0 pop 1 0", line + ", 0 pop 1 0, 0 push 1 8 3", emptied, sealed, filled} {
		p := behind(t, begun(t, 3, 2, 2), ahead)
		next := p.does(t, deed(t, "5 push 1 9 1")).does(t, deed(t, "5 raise"))
		for _, x := range []pair{p, next} {
			for s := range 2 {
				one, other := x.b.Queue(s), x.b.Queue(s)
				scribble(one, board.Entry{Ticket: 99, Slot: 99})
				if !slices.Equal(other, x.m.queue(s)) {
					t.Errorf("behind %q: %+v", ahead, other)
				}
			}
			one, other := x.b.Trace(), x.b.Trace()
			before := slices.Clone(other)
			scribble(one, race.Act{Thread: 9, Kind: race.Write, Loc: 9})
			if !slices.Equal(other, before) || !slices.Equal(x.b.Trace(), before) {
				t.Errorf("behind %q: %s", ahead, story(x.b.Trace()))
			}
		}
		p.holds(t)
		next.holds(t)
	}
}

// scribble writes something all over a list, and over the room behind its end.
func scribble[T any](l []T, x T) {
	l = l[:cap(l)]
	for i := range l {
		l[i] = x
	}
}
