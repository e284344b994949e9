package integ_test

import (
	"math/rand"
	"slices"
	"strconv"
	"strings"
	"testing"

	"selvedge/api"
	"selvedge/board"
	"selvedge/client"
	"selvedge/race"
	"selvedge/replica"
	"selvedge/version"
)

// TestP171EveryShortTurn has all rows of some deeds between the steps of an integrator;
// behind each it and the board are held against the model.
func TestP171EveryShortTurn(t *testing.T) {
	deeds := strings.Split("9 lock 1, 9 unlock 1, 9 seal 0, 9 seal 1, 9 push 0 5 0, 9 push 1 6 1, 9 pop 0 0, 9 publish 8", ", ")
	var grow func(b board.Board, p pair, steps, left int)
	grow = func(b board.Board, p pair, steps, left int) {
		p.stands(t, b)
		if steps > 0 {
			next, q := p.step(t, b)
			grow(next, q, steps-1, left)
		}
		if left > 0 {
			for _, d := range deeds {
				grow(done(t, b, d), p, steps, left-1)
			}
		}
	}
	for _, ahead := range []string{"", "9 seal 0", "9 push 1 7 2", "9 push 0 7 2, 9 seal 0, 9 seal 1"} {
		b, p := fresh(t, 7, 2, 1), pair{}
		b, p = behind(t, b, begun(t, 3, b, 1), ahead)
		grow(b, p, 9, 2)
	}
}

// moment is a board, and an integrator that goes on on it.
type moment struct {
	b board.Board
	p pair
}

// deed is something that another thread may do to a board.
func deed(r *rand.Rand, stripes int) string {
	s := " " + strconv.Itoa(r.Intn(stripes))
	push := "push" + s + " " + strconv.Itoa(r.Intn(801)) + " "
	// A Close alone isn't among these: behind it all else would be closed.
	call := strconv.Itoa(r.Intn(len(calls()) - 1))
	l := []string{"lock" + s, "unlock" + s, "unlock" + s, push + "0", push + "2", push + call, push + call, "fill 6", "publish 7"}
	// Few of these, since nobody takes them back.
	if r.Intn(8) == 0 {
		l = []string{"raise", "seal" + s, "leave", push + "14"}
	}
	return strconv.Itoa(r.Intn(16)) + " " + l[r.Intn(len(l))]
}

// TestP171ManyMoments has integrators go on from any elder moment, whatever others do: what
// was made of one leaves it, and its board, as they were.
func TestP171ManyMoments(t *testing.T) {
	states := map[string]int{}
	for seed := range int64(60) {
		r := rand.New(rand.NewSource(seed))
		stripes := 1 + r.Intn(3)
		b := fresh(t, 7, stripes, 1+r.Intn(3))
		if r.Intn(2) == 0 {
			b = done(t, b, "9 publish 7")
		}
		l := []moment{{b, begun(t, r.Intn(16), b, 1+r.Intn(3), 1+r.Intn(5))}}
		for len(l) < 160 {
			m := l[len(l)-1]
			if r.Intn(20) == 0 || m.p.g.Done() {
				m = l[r.Intn(len(l))]
			}
			if r.Intn(3) == 0 {
				m.b = done(t, m.b, deed(r, stripes))
			} else {
				m.b, m.p = m.p.step(t, m.b)
			}
			l = append(l, m)
		}
		for _, m := range l {
			m.p.stands(t, m.b)
			m.p.step(t, m.b)
			states[m.p.g.State()]++
			if m.p.g.Next() > 2 && m.p.g.Done() {
				states["done behind three"]++
			}
		}
	}
	for _, want := range strings.Split("grab,pop,check,skip,drop,apply,reply,leave,done,done behind three", ",") {
		if states[want] == 0 {
			t.Errorf("none was so: %s", want)
		}
	}
}

// caller is a thread that makes calls, one after the other, and what those answered that are
// done.
type caller struct {
	way  client.Way
	n    int
	rest []replica.Call
	xs   []replica.Result
}

// crowd is callers, and one thread more, which applies; of what was pushed it knows the
// entries, in their order.
type crowd struct {
	b      board.Board
	l      []caller
	p      pair
	pushed []board.Entry
	heard  string
}

// crowded is a crowd of callers, on a new board.
func crowded(t *testing.T, stripes, room int, calls ...[]replica.Call) crowd {
	t.Helper()
	b := fresh(t, 7, stripes, room)
	c := crowd{b: b, p: begun(t, len(calls), b, 2, 5)}
	for i, l := range calls {
		c.l = append(c.l, caller{way: client.Begin(i, 100*i, l[0]), rest: l[1:]})
	}
	return c
}

// ready says whether a caller can go on.
func (c crowd) ready(i int) bool {
	if i == len(c.l) {
		return c.p.g.Ready(c.b)
	}
	return c.l[i].way.Ready(c.b) || c.l[i].way.Done() && len(c.l[i].rest) > 0
}

// calls is the crowd behind a step of a caller.
func (c crowd) calls(i int) crowd {
	x := c.l[i]
	if x.way.Done() && len(x.rest) > 0 {
		x.n++
		x.way, x.rest = client.Begin(i, 100*i+x.n, x.rest[0]), x.rest[1:]
	}
	was := x.way.Done()
	pushing := x.way.State() == "push"
	home := i % c.b.Stripes()
	waiting := len(c.b.Queue(home))
	c.b, x.way = x.way.Step(c.b)
	if l := c.b.Queue(home); pushing && len(l) > waiting {
		c.pushed = append(slices.Clip(c.pushed), l[waiting])
	}
	if x.way.Done() && !was {
		x.xs = append(slices.Clip(x.xs), x.way.Result())
	}
	c.l = slices.Clone(c.l)
	c.l[i] = x
	return c
}

// does is the crowd behind a step of one of its callers, or of the one that applies.
func (c crowd) does(t *testing.T, i int) crowd {
	t.Helper()
	c.heard += strconv.Itoa(i)
	if i == len(c.l) {
		c.b, c.p = c.p.step(t, c.b)
		return c
	}
	return c.calls(i)
}

// done says whether all calls are.
func (c crowd) done() bool {
	return !slices.ContainsFunc(c.l, func(x caller) bool { return !x.way.Done() || len(x.rest) > 0 })
}

// ends is the crowd behind turns of all, till all calls are done.
func (c crowd) ends(t *testing.T) crowd {
	t.Helper()
	heard := c.heard
	for n := 0; !c.done(); n++ {
		for i := range len(c.l) + 1 {
			if i < len(c.l) {
				c = c.calls(i)
			} else {
				c.b, c.p.g = c.p.g.Step(c.b)
			}
		}
		if n > 600 {
			t.Fatalf("behind %s: it doesn't end", heard)
		}
	}
	c.p.m.log = nil
	return c
}

// published is how often the crowd's replica was.
func (c crowd) published() int {
	n := 0
	for _, a := range c.b.Trace() {
		if a.Kind == race.Release && a.Loc == 2002 {
			n++
		}
	}
	return n
}

// holds holds P17.2 for what the crowd did: what is published is what comes of as many
// entries as were applied, by their tickets, from the first on, each once; what each of them
// answers is in its slot. No two acts race.
func (c crowd) holds(t *testing.T) {
	t.Helper()
	r, all := c.p.m.first, []version.Change{}
	for n, e := range c.pushed {
		if e.Ticket != n {
			t.Fatalf("%s: the %d-th entry is %+v", c.heard, n, e)
		}
		if n >= c.published() {
			break
		}
		next, want, l := r.Changes(e.Call)
		r, all = next, append(all, l...)
		_, filled := c.b.Filled(0, e.Slot)
		if _, x := c.b.Fetch(0, e.Slot); filled != (n < c.p.g.Next()) || filled && x != want {
			t.Fatalf("%s: %v, %+v in %d, not %+v", c.heard, filled, x, e.Slot, want)
		}
	}
	if _, got := c.b.Load(0); tale(got) != tale(r) || tale(c.p.g.Replica()) != tale(r) {
		t.Fatalf("%s: %s is published, not %s", c.heard, tale(got), tale(r))
	}
	if !slices.Equal(c.p.g.Changes(), all) {
		t.Fatalf("%s: the changes are %+v, not %+v", c.heard, c.p.g.Changes(), all)
	}
	if i, k, e := race.First(c.b.Trace()); e != api.OK {
		t.Fatalf("%s: %s: %d and %d race", c.heard, story(c.b.Trace()), i, k)
	}
}

// over holds what is so when all calls are done: all that waits was applied, and a closed
// board is gone.
func (c crowd) over(t *testing.T) {
	t.Helper()
	c.holds(t)
	if c.published() != len(c.pushed) || c.p.g.Next() != len(c.pushed) {
		t.Fatalf("%s: %d of %d were applied, and %d published", c.heard, c.p.g.Next(), len(c.pushed), c.published())
	}
}

// key is all that tells how a crowd goes on.
func (c crowd) key() string {
	m := c.p.m
	l := []string{m.state(), strconv.Itoa(m.at()), strconv.Itoa(m.finished()), tale(c.p.g.Replica()), strconv.Itoa(m.times("reply"))}
	for s := range c.b.Stripes() {
		_, empty := c.b.Empty(0, s)
		l = append(l, strconv.Itoa(c.b.Holder(s)), strconv.Itoa(len(c.b.Queue(s))), strconv.FormatBool(empty))
	}
	for i, x := range c.l {
		_, filled := c.b.Filled(0, 100*i+x.n)
		l = append(l, x.way.State(), strconv.Itoa(x.n), x.way.Result().Text, x.way.Result().Err.Word(), strconv.FormatBool(filled))
	}
	_, up := c.b.Up(0)
	_, gone := c.b.Gone(0)
	return strings.Join(append(l, strconv.FormatBool(up), strconv.FormatBool(gone)), "|")
}

// TestP172EveryMoment: of all moments that two calls and the one that applies can come to,
// by steps that lead on, in whatever order: what P17.2 says is so, and all calls come to be
// done from there.
func TestP172EveryMoment(t *testing.T) {
	insert, second, remove := replica.Call{Char: 'a'}, replica.Call{At: 0, Char: 'b'}, replica.Call{Kind: replica.Delete}
	read, stop := replica.Call{Kind: replica.Read}, replica.Call{Kind: replica.Close}
	for _, l := range [][]replica.Call{{insert, second}, {insert, remove}, {insert, stop}, {read, stop}, {stop, stop}} {
		for stripes := 1; stripes <= 2; stripes++ {
			todo := []crowd{crowded(t, stripes, 1, l[:1], l[1:])}
			seen := map[string]bool{todo[0].key(): true}
			ends := 0
			for len(todo) > 0 {
				c := todo[0]
				todo = todo[1:]
				c.holds(t)
				c.ends(t).over(t)
				if c.done() {
					ends++
					continue
				}
				for i := range len(c.l) + 1 {
					if next := c.does(t, i); c.ready(i) && !seen[next.key()] {
						seen[next.key()] = true
						todo = append(todo, next)
					}
				}
			}
			if len(seen) < 50 || ends < 2 {
				t.Errorf("%v: %d moments, %d ends", l, len(seen), ends)
			}
		}
	}
}

// TestP172Crowds: many calls at once, by steps of any of them, ready or not: all come to be
// done, when each takes steps in its turn.
func TestP172Crowds(t *testing.T) {
	ends := map[api.Errno]int{}
	most := 0
	for seed := range int64(60) {
		r := rand.New(rand.NewSource(seed))
		var all [][]replica.Call
		for range 2 + r.Intn(7) {
			var l []replica.Call
			for range 1 + r.Intn(9) {
				l = append(l, calls()[r.Intn(len(calls())-1)])
			}
			all = append(all, l)
		}
		if seed%2 == 0 {
			all[0] = append(all[0], replica.Call{Kind: replica.Close})
		}
		c := crowded(t, 1+r.Intn(8), 1+r.Intn(3), all...)
		for range r.Intn(500) {
			i := r.Intn(len(c.l) + 3)
			if c = c.does(t, min(i, len(c.l))); r.Intn(40) == 0 {
				c.holds(t)
			}
		}
		c.holds(t)
		c = c.ends(t)
		c.over(t)
		for _, x := range c.l {
			for _, x := range x.xs {
				ends[x.Err]++
			}
		}
		most = max(most, len(c.pushed))
		if _, gone := c.b.Gone(0); gone != (seed%2 == 0) {
			t.Errorf("%d: gone is %v", seed, gone)
		}
	}
	for _, e := range []api.Errno{api.OK, api.ErrBusy, api.ErrClosed, api.ErrRange, api.ErrForm, api.ErrNone} {
		if ends[e] == 0 {
			t.Errorf("none ended so: %v", e)
		}
	}
	if most < 20 {
		t.Errorf("%d entries at most", most)
	}
}

// TestP172Twice has an integrator apply nothing of which another thread took the entry, nor
// anything again that it applied, though a later entry waits for the same slot.
func TestP172Twice(t *testing.T) {
	b := fresh(t, 7, 1, 4)
	b, p := behind(t, b, begun(t, 3, b), "9 push 0 5 0, "+ahead(5)+", 9 push 0 5 2, "+ahead(5))
	if _, x := b.Fetch(0, 5); x.N != 2 || p.g.Next() != 2 || p.g.Replica().Version().Text() != "aé" {
		t.Error(x, p.g.Next())
	}
	_, p = behind(t, b, p, "9 push 0 5 0, 9 push 0 6 0, 9 pop 0 2, 9 seal 0, "+ahead(12))
	if p.g.Next() != 2 || p.g.Done() {
		t.Error(p.g.State(), p.g.Next())
	}
}
