package client_test

import (
	"math/rand"
	"slices"
	"strconv"
	"strings"
	"testing"

	"selvedge/api"
	"selvedge/board"
	"selvedge/race"
	"selvedge/replica"
)

// TestP161EveryShortTurn has all rows of some deeds between the steps of a call, of each
// sort; behind each the call and the board are held against the model.
func TestP161EveryShortTurn(t *testing.T) {
	deeds := strings.Split("9 raise, 9 lock 1, 9 unlock 1, 9 seal 1, 9 push 1 5, 9 fill 7 41, 9 leave, 9 publish 7", ", ")
	for _, k := range []replica.Kind{replica.Insert, replica.Mark, replica.Close, 9} {
		var grow func(b board.Board, p pair, steps, left int)
		grow = func(b board.Board, p pair, steps, left int) {
			p.stands(t, b)
			if steps > 0 {
				next, q := p.step(t, b)
				grow(next, q, steps-1, left)
			}
			if left > 0 {
				for _, d := range deeds {
					grow(done(t, b, d), p, steps, left-1)
				}
			}
		}
		grow(fresh(t, 7, 2, 1), begun(3, 7, whole(k), 2), 8, 2)
	}
}

// moment is a board, and a call that goes on on it.
type moment struct {
	b board.Board
	p pair
}

// deed is something that another thread may do to a board.
func deed(r *rand.Rand, stripes, slot int) string {
	s := " " + strconv.Itoa(r.Intn(stripes))
	l := []string{"lock" + s, "unlock" + s, "unlock" + s, "push" + s + " 5", "pop" + s + " 0", "pop" + s + " 1", "fill 6 1",
		"fill " + strconv.Itoa(slot) + " " + strconv.Itoa(r.Intn(9)-4), "publish " + strconv.Itoa(r.Intn(3)*7)}
	// Few of these, since nobody takes them back.
	if r.Intn(6) == 0 {
		l = []string{"raise", "seal" + s, "leave"}
	}
	return strconv.Itoa(r.Intn(16)) + " " + l[r.Intn(len(l))]
}

// TestP161ManyMoments has calls go on from any elder moment, whatever others do: what was
// made of a call leaves it, and its board, as they were.
func TestP161ManyMoments(t *testing.T) {
	ends := map[string]int{}
	for seed := range int64(80) {
		r := rand.New(rand.NewSource(seed))
		stripes, slot := 1+r.Intn(3), r.Intn(801)
		k := replica.Kind(seed % 10)
		l := []moment{{fresh(t, 7, stripes, 1+r.Intn(2)), begun(r.Intn(16), slot, whole(k), stripes)}}
		for len(l) < 150 {
			m := l[len(l)-1]
			if r.Intn(12) == 0 || m.p.w.Done() {
				m = l[r.Intn(len(l))]
			}
			if r.Intn(2) == 0 {
				m.b = done(t, m.b, deed(r, stripes, slot))
			} else {
				m.b, m.p = m.p.step(t, m.b)
			}
			l = append(l, m)
		}
		for _, m := range l {
			m.p.stands(t, m.b)
			m.p.step(t, m.b)
			if m.p.w.Done() {
				ends[m.p.m.call.Kind.String()+" "+m.p.w.Result().Err.Word()]++
			}
		}
	}
	for _, want := range []string{"insert ok", "insert busy", "insert closed", "read ok", "mark range", "close ok", "close closed", "none form"} {
		if ends[want] == 0 {
			t.Errorf("none ended so: %s", want)
		}
	}
}

// TestP162Looks has calls that neither write nor close done by at most two steps, behind
// whatever others did ahead of each of these; they wait for nothing.
func TestP162Looks(t *testing.T) {
	for seed := range int64(300) {
		r := rand.New(rand.NewSource(seed))
		stripes := 1 + r.Intn(8)
		for _, k := range []replica.Kind{replica.Read, replica.Len, replica.Mark, replica.Where, replica.Snapshot, -1, 9} {
			b, p := fresh(t, 7, stripes, 1), begun(r.Intn(16), 7, whole(k), stripes)
			for range 2 {
				for range r.Intn(30) {
					b = done(t, b, deed(r, stripes, 7))
				}
				if !p.w.Done() && !p.w.Ready(b) {
					t.Fatalf("%v waits, behind %s", k, story(b.Trace()))
				}
				b, p = p.step(t, b)
			}
			if !p.w.Done() {
				t.Fatalf("%v isn't done, behind %s", k, story(b.Trace()))
			}
		}
	}
}

// crowd is calls, each of a thread of its own, and one more thread, which answers them.
type crowd struct {
	b     board.Board
	l     []pair
	next  int // the ticket
	heard string
}

// server is the thread that answers.
const server = 15

// serve has the next ticket's call answered, if it waits, and its stripe's lock is free;
// the board is left, if nothing more can come.
func (c crowd) serve() crowd {
	finished := 0
	for s := range c.b.Stripes() {
		b, taken := c.b.Lock(server, s)
		if !taken {
			continue
		}
		b, x, ok := b.Pop(server, s, c.next)
		b, empty := b.Empty(server, s)
		b = b.Unlock(server, s)
		if ok {
			c.b, c.next = b.Fill(server, x.Slot, result(x.Ticket)), c.next+1
			return c
		}
		c.b = b
		if empty {
			finished++
		}
	}
	if finished == c.b.Stripes() {
		c.b = c.b.Leave(server)
	}
	return c
}

// does is the crowd behind a step of one of its calls, or of the server.
func (c crowd) does(t *testing.T, i int) crowd {
	t.Helper()
	c.heard += strconv.Itoa(i)
	if i == len(c.l) {
		return c.serve()
	}
	l := slices.Clone(c.l)
	c.b, l[i] = c.l[i].step(t, c.b)
	c.l = l
	return c
}

// takes are those of which a step leads on.
func (c crowd) takes() []int {
	var l []int
	for i, p := range c.l {
		if p.w.Ready(c.b) {
			l = append(l, i)
		}
	}
	behind := c.serve()
	_, was := c.b.Gone(server)
	if _, gone := behind.b.Gone(server); behind.next > c.next || gone && !was {
		l = append(l, len(c.l))
	}
	return l
}

// done says whether all calls are.
func (c crowd) done() bool {
	return !slices.ContainsFunc(c.l, func(p pair) bool { return !p.w.Done() })
}

// holds holds P16.2, and P15.2's end, for what the crowd did: no lock is a thread's whose
// call is done, each was freed by the one that took it, and no two acts race.
func (c crowd) holds(t *testing.T) {
	t.Helper()
	whose := map[int]int{}
	for _, a := range c.b.Trace() {
		if a.Loc < 1000 || a.Loc >= 1000+api.MaxStripes {
			continue
		}
		thread, taken := whose[a.Loc]
		if a.Kind == race.Acquire && !taken {
			whose[a.Loc] = a.Thread
		} else if a.Kind == race.Release && taken && thread == a.Thread {
			delete(whose, a.Loc)
		} else {
			t.Fatalf("%s: %+v of a lock of which %v", c.heard, a, whose)
		}
	}
	for _, p := range c.l {
		for sign, thread := range whose {
			if p.w.Done() && thread == p.m.t {
				t.Fatalf("%s: %d isn't free", c.heard, sign)
			}
		}
		for s := range c.b.Stripes() {
			if p.w.Done() && c.b.Holder(s) == p.m.t {
				t.Fatalf("%s: the lock of %d is a done call's", c.heard, s)
			}
		}
	}
	if i, k, e := race.First(c.b.Trace()); e != api.OK {
		t.Fatalf("%s: %s: %d and %d race", c.heard, story(c.b.Trace()), i, k)
	}
}

// crowded is a crowd of calls of kinds.
func crowded(t *testing.T, stripes, room int, l ...replica.Kind) crowd {
	t.Helper()
	c := crowd{b: fresh(t, 7, stripes, room)}
	for i, k := range l {
		c.l = append(c.l, begun(i, 100*i, whole(k), stripes))
	}
	return c
}

// TestP162EveryTurn: all rows of steps that lead on, of two calls and of the server: each
// of them ends, with all calls done.
func TestP162EveryTurn(t *testing.T) {
	for _, l := range [][]replica.Kind{{replica.Insert, replica.Delete}, {replica.Apply, replica.Close}, {replica.Close, replica.Close},
		{replica.Read, replica.Close}, {replica.Close, replica.Insert}} {
		for stripes := 1; stripes <= 2; stripes++ {
			turns := 0
			var grow func(c crowd)
			grow = func(c crowd) {
				ways := c.takes()
				for _, i := range ways {
					grow(c.does(t, i))
				}
				if len(ways) > 0 {
					return
				}
				if c.holds(t); !c.done() {
					t.Fatalf("%v: nobody takes a step behind %s", l, c.heard)
				}
				turns++
			}
			if grow(crowded(t, stripes, 1, l...)); turns < 5 {
				t.Errorf("%v: %d rows", l, turns)
			}
		}
	}
}

// TestP162Crowds: many calls at once, and steps of any of them, ready or not: all come to
// be done, when each takes steps in its turn, and then no lock is held.
func TestP162Crowds(t *testing.T) {
	ends := map[api.Errno]int{}
	for seed := range int64(60) {
		r := rand.New(rand.NewSource(seed))
		var l []replica.Kind
		for range 2 + r.Intn(7) {
			l = append(l, kinds()[r.Intn(8)])
		}
		if seed%2 == 0 {
			l[r.Intn(len(l))] = replica.Close
		}
		c := crowded(t, 1+r.Intn(8), 1+r.Intn(2), l...)
		for range r.Intn(60) {
			c = c.does(t, r.Intn(len(l)+1))
			if r.Intn(10) == 0 {
				c.holds(t)
			}
		}
		c.holds(t)
		for n := 0; n < 60 && !c.done(); n++ {
			for i := range len(l) + 1 {
				c = c.does(t, i)
			}
		}
		c.holds(t)
		if !c.done() {
			t.Fatalf("%v: %s", l, c.heard)
		}
		for _, p := range c.l {
			ends[p.w.Result().Err]++
		}
	}
	for _, e := range []api.Errno{api.OK, api.ErrBusy, api.ErrClosed} {
		if ends[e] == 0 {
			t.Errorf("none ended so: %v", e)
		}
	}
}
