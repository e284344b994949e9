package board_test

import (
	"math/rand"
	"slices"
	"strconv"
	"testing"

	"selvedge/api"
	"selvedge/board"
	"selvedge/race"
	"selvedge/replica"
)

// few are deeds of two threads, of which each matters to others.
const few = "0 raise, 1 up, 0 lock 0, 1 lock 0, 1 unlock 0, 0 lock 1, 0 push 0 4 1, 1 push 0 5 2, 1 push 1 6 3, 0 pop 0 0, 1 pop 0 1, 1 pop 1 0, 1 pop 1 1, " +
	"0 seal 0, 1 seal 1, 0 empty 0, 0 publish 8, 1 publish 9, 1 load, 0 fill 4 1, 1 fill 4 2, 1 fill 5 3, 1 filled 4, 0 fetch 4, 0 leave, 1 gone"

// TestP151EveryShortTurn has all rows of three of some deeds, on boards of the room 1 and
// 2; behind each the board is asked for all.
func TestP151EveryShortTurn(t *testing.T) {
	for room := 1; room <= 2; room++ {
		l := deeds(t, few)
		var grow func(p pair, left int)
		grow = func(p pair, left int) {
			p.stands(t)
			if left == 0 {
				p.holds(t)
				return
			}
			for _, d := range l {
				grow(p.does(t, d), left-1)
			}
		}
		grow(begun(t, 2, 2, room), 3)
	}
}

// random is something that may be done to a model's board.
func (m model) random(r *rand.Rand) done {
	kinds := []string{"up", "raise", "lock", "lock", "unlock", "push", "push", "push", "push", "pop", "pop", "pop", "seal", "empty", "publish", "load",
		"fill", "fill", "filled", "fetch", "leave", "gone"}
	d := done{kind: kinds[r.Intn(len(kinds))], t: r.Intn(16)}
	switch d.kind {
	case "fill", "filled", "fetch":
		d.at, d.x = r.Intn(9)*100, result(r.Intn(50))
	case "lock", "unlock", "empty":
		d.at = r.Intn(m.stripes)
	case "seal":
		// Few are sealed, since nothing more is pushed there.
		d.at = r.Intn(m.stripes)
		if r.Intn(8) > 0 {
			d.kind = "empty"
		}
	case "push":
		d.at, d.slot, d.call = r.Intn(m.stripes), r.Intn(801), replica.Call{Kind: replica.Kind(r.Intn(9)), At: r.Intn(100)}
	case "pop":
		d.at = r.Intn(m.stripes)
		if l := m.queue(d.at); len(l) > 0 {
			d.ticket = l[0].Ticket + max(0, r.Intn(6)-4)
		}
	case "publish":
		d.r, _ = replica.New(1 + r.Intn(1000))
	}
	return d
}

// TestP151ManyBoards has boards made of any elder ones, and any elder one asked again:
// it answers as its model does, whatever was made of it.
func TestP151ManyBoards(t *testing.T) {
	for seed := range int64(8) {
		r := rand.New(rand.NewSource(seed))
		pairs := []pair{begun(t, 1+r.Intn(1000), 1+r.Intn(8), 1+r.Intn(5))}
		for len(pairs) < 400 {
			p := pairs[len(pairs)-1]
			if r.Intn(8) == 0 {
				p = pairs[r.Intn(len(pairs))]
			}
			pairs = append(pairs, p.does(t, p.m.random(r)))
			if r.Intn(20) == 0 {
				pairs[r.Intn(len(pairs))].holds(t)
			}
		}
		for _, p := range pairs {
			p.stands(t)
		}
		for range 40 {
			pairs[r.Intn(len(pairs))].holds(t)
		}
	}
}

// TestP151TwoOfOne has two lines of deeds go on from one board, in turns: neither hears of
// the other one, nor does the board that both come of.
func TestP151TwoOfOne(t *testing.T) {
	for _, ahead := range []string{"", two, line, emptied, sealed, filled, "0 lock 0", "0 raise, 0 leave, 0 publish 9",
		"0 push 0 1 1, 0 push 0 2 2, 0 push 0 3 3, 0 pop 0 0", "0 push 0 1 1, 0 push 0 2 2, 0 push 0 3 3, 0 pop 0 0, 0 pop 0 1, 0 pop 0 2"} {
		elder := behind(t, begun(t, 3, 2, 4), ahead)
		left, right := elder, elder
		a := deeds(t, "1 push 0 7 7, 1 fill 5 50, 1 lock 0, 1 push 0 8 8, 1 pop 0 0, 1 raise, 1 push 1 9 9, 1 publish 11, 1 seal 1, 1 leave, 1 fill 6 51")
		b := deeds(t, "2 push 0 17 7, 2 fill 5 60, 2 lock 1, 2 push 0 18 8, 2 seal 0, 2 publish 12, 2 push 1 19 9, 2 push 1 20 9, 2 fill 7 61, 2 unlock 0, 2 up")
		for i := range a {
			left = left.does(t, a[i])
			right = right.does(t, b[i])
			for _, p := range []pair{elder, left, right} {
				p.stands(t)
			}
		}
		for _, p := range []pair{elder, left, right} {
			p.holds(t)
		}
	}
}

// TestP151Long: a board of many acts, with elder ones kept: each has its own trace.
func TestP151Long(t *testing.T) {
	const rounds = 5000
	b := begun(t, 1, 1, 1).b
	var kept []board.Board
	var want []race.Act
	var lens []int
	for n := range rounds {
		if n%500 == 0 {
			kept, lens = append(kept, b), append(lens, len(want))
		}
		thread := n % 16
		b, _ = b.Lock(thread, 0)
		b, _ = b.Push(thread, 0, n%801, replica.Call{})
		b, _, _ = b.Pop(thread, 0, n)
		b = b.Unlock(thread, 0)
		want = append(want, trace(thread, "a1000 r0 a2000 l2000 w0 r0 w0 l1000")...)
	}
	if !slices.Equal(b.Trace(), want) {
		t.Error("the whole trace")
	}
	for i, k := range kept {
		if !slices.Equal(k.Trace(), want[:lens[i]]) {
			t.Errorf("the trace behind %d acts", lens[i])
		}
	}
	if i, k, e := race.First(b.Trace()); e != api.OK {
		t.Error(i, k, e)
	}
}

// crew are threads that keep to what P15.2 asks of them, and what each may do.
type crew struct {
	p       pair
	threads int
	seen    map[[2]int]bool // of a thread and a slot: was it filled, when the thread asked?
}

// keeps says whether what a thread would do is what P15.2 lets it do.
func (c crew) keeps(d done) bool {
	switch d.kind {
	case "push", "pop", "seal", "empty", "unlock":
		return c.p.m.holder(d.at) == d.t
	case "fetch":
		return c.seen[[2]int{d.t, d.at}]
	case "fill":
		return !c.p.m.was(d.at, "fill")
	}
	return true
}

// does is a crew behind what a thread did.
func (c crew) does(t *testing.T, d done) crew {
	t.Helper()
	if _, a := ask(c.p.b, d); d.kind == "filled" && a.ok {
		seen := map[[2]int]bool{{d.t, d.at}: true}
		for k := range c.seen {
			seen[k] = true
		}
		c.seen = seen
	}
	c.p = c.p.does(t, d)
	return c
}

// raceless holds P15.2 for what a crew did.
func (c crew) raceless(t *testing.T) {
	t.Helper()
	if i, k, e := race.First(c.p.b.Trace()); i != -1 || k != -1 || e != api.OK {
		t.Fatalf("%s: %d %d %v", story(c.p.b.Trace()), i, k, e)
	}
}

// TestP152EveryShortTurn: all rows of six deeds of two threads that keep to it,
// with one stripe and one slot.
func TestP152EveryShortTurn(t *testing.T) {
	l := deeds(t, "0 lock 0, 1 lock 0, 0 unlock 0, 1 unlock 0, 0 push 0 4 1, 1 push 0 4 1, 0 seal 0, 1 empty 0, 1 pop 0 0, 0 fill 4 1, 0 filled 4, 1 filled 4, 0 fetch 4, 1 fetch 4")
	rows := 0
	var grow func(c crew, left int)
	grow = func(c crew, left int) {
		if left == 0 {
			c.raceless(t)
			rows++
			return
		}
		for _, d := range l {
			if c.keeps(d) {
				grow(c.does(t, d), left-1)
			}
		}
	}
	grow(crew{p: begun(t, 1, 1, 2)}, 6)
	if rows < 10000 {
		t.Errorf("%d rows", rows)
	}
}

// random is something that a thread of a crew may do.
func (c crew) random(r *rand.Rand) done {
	for {
		d := c.p.m.random(r)
		d.t = r.Intn(c.threads)
		switch d.kind {
		case "push", "pop", "empty", "unlock":
			// Whose lock it is does it, since few others may.
			if h := c.p.m.holder(d.at); h >= 0 {
				d.t = h
			}
		}
		if c.keeps(d) {
			return d
		}
	}
}

// TestP152Kept: threads, few and many, that keep to it, whatever they do, have no race.
func TestP152Kept(t *testing.T) {
	r := rand.New(rand.NewSource(152))
	fetched, popped := 0, 0
	for n := range 60 {
		c := crew{p: begun(t, 1+n, 1+n%8, 1+n%16), threads: 1 + n%16}
		for range 200 {
			d := c.random(r)
			if _, a := ask(c.p.b, d); a.ok && d.kind == "pop" {
				popped++
			}
			if d.kind == "fetch" {
				fetched++
			}
			c = c.does(t, d)
		}
		c.raceless(t)
	}
	if fetched < 50 || popped < 50 {
		t.Errorf("%d were fetched, %d popped", fetched, popped)
	}
}

// TestP152Slips: where a thread doesn't keep to it, the trace has the race that comes of
// it: so it isn't for want of acts that the others have none. At is -1, where none comes.
func TestP152Slips(t *testing.T) {
	for _, c := range []struct {
		deeds string
		i, k  int
	}{
		{"0 push 0 4 1, 1 push 0 5 1", 3, 4},
		{"0 lock 0, 0 push 0 4 1, 1 pop 0 0", 4, 5},
		{"0 lock 0, 0 push 0 4 1, 0 unlock 0, 1 pop 0 0", 4, 6},
		{"0 lock 0, 0 push 0 4 1, 0 unlock 0, 1 lock 0, 1 pop 0 0", -1, -1},
		{"0 lock 0, 0 push 0 4 1, 0 unlock 0, 1 lock 1, 1 pop 0 0", 4, 7},
		{"0 lock 0, 0 push 0 4 1, 0 unlock 0, 1 empty 0", 4, 6},
		{"0 empty 0, 1 seal 0", 0, 1},
		{"0 seal 0, 1 seal 0", 0, 1},
		{"0 seal 0, 1 seal 1", -1, -1},
		{"0 seal 0, 1 empty 0", 0, 1},
		{"0 seal 0, 1 push 0 4 1", 0, 1},
		{"0 empty 0, 1 empty 0, 2 pop 0 0", -1, -1},
		{"0 fill 4 1, 1 fetch 4", 0, 2},
		{"0 fill 4 1, 1 filled 4, 1 fetch 4", -1, -1},
		{"0 fill 4 1, 1 filled 5, 1 fetch 4", 0, 3},
		{"0 fill 4 1, 2 filled 4, 1 fetch 4", 0, 3},
		{"1 filled 4, 0 fill 4 1, 1 fetch 4", 1, 3},
		{"1 fetch 4, 0 fill 4 1", 0, 1},
		{"0 fill 4 1, 1 fill 4 2", 0, 2},
		{"0 fill 4 1, 1 fill 5 2, 1 filled 4, 1 fetch 4, 0 filled 5, 0 fetch 5", -1, -1},
		{"0 fill 4 1, 0 publish 8, 1 load, 1 fetch 4", -1, -1},
		{"0 fill 4 1, 1 load, 0 publish 8, 1 fetch 4", 0, 4},
		{"0 fill 4 1, 0 leave, 1 gone, 1 fetch 4", -1, -1},
		{"0 fill 4 1, 0 raise, 1 up, 1 fetch 4", -1, -1},
		{"0 fill 4 1, 0 raise, 1 raise, 1 fetch 4", -1, -1},
		{"0 fill 4 1, 0 up, 1 up, 1 fetch 4", 0, 4},
		{"0 fill 4 1, 0 push 0 1 1, 1 push 1 1 1, 1 fetch 4", -1, -1},
	} {
		p := behind(t, begun(t, 1, 2, 2), c.deeds)
		want := api.OK
		if c.i >= 0 {
			want = api.ErrRace
		}
		if i, k, e := race.First(p.b.Trace()); i != c.i || k != c.k || e != want {
			t.Errorf("%s: %s: %d %d %v, not %d %d %v", c.deeds, story(p.b.Trace()), i, k, e, c.i, c.k, want)
		}
	}
}

// TestP152Handed: a call goes from one thread's push by another one's pop to a result, as
// layers 16 and 17 do it; each thread that asks for a slot behind that sees its Write.
func TestP152Handed(t *testing.T) {
	p := begun(t, 1, 8, 1)
	n := strconv.Itoa
	for k := range 15 {
		s := n(k % 8)
		p = behind(t, p, n(k)+" lock "+s+", "+n(k)+" push "+s+" "+n(k)+" 1, "+n(k)+" unlock "+s+", "+
			"15 lock "+s+", 15 pop "+s+" "+n(k)+", 15 unlock "+s+", 15 publish 3, 15 fill "+n(k)+" "+n(k))
	}
	for k := range 15 {
		p = behind(t, p, n(k)+" filled "+n(k)+", "+n(k)+" fetch "+n(k)+", "+n(k)+" filled "+n(14-k)+", "+n(k)+" fetch "+n(14-k))
	}
	l := p.b.Trace()
	if i, k, e := race.First(l); e != api.OK {
		t.Fatal(i, k, e)
	}
	for k, a := range l {
		if a.Kind == race.Read && a.Loc >= 100 {
			if seen := race.Seen(l, k); seen < 0 || l[seen].Thread != 15 {
				t.Errorf("the Read %d of %d sees %d", k, a.Loc, seen)
			}
		}
	}
}
