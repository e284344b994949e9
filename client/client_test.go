package client_test

import (
	"math"
	"slices"
	"strconv"
	"strings"
	"testing"

	"selvedge/api"
	"selvedge/board"
	"selvedge/client"
	"selvedge/id"
	"selvedge/replica"
)

// numbers are those of words; 0 of those that aren't there.
func numbers(t *testing.T, words []string) [3]int {
	t.Helper()
	var l [3]int
	for i, w := range words {
		n, e := strconv.Atoi(w)
		if e != nil {
			t.Fatalf("no number: %q", w)
		}
		l[i] = n
	}
	return l
}

// done is a board behind what a text tells of: a thread, what it does, and the stripe or
// slot; of a push the slot, of a pop the ticket, of a fill the Result's number comes
// behind; of a publish the replica's Site, whose text is xy, or 0: a closed one.
func done(t *testing.T, b board.Board, text string) board.Board {
	t.Helper()
	words := strings.Fields(text)
	n := numbers(t, append(words[:1:1], words[2:]...))
	switch words[1] {
	case "raise":
		b, _ = b.Raise(n[0])
	case "lock":
		b, _ = b.Lock(n[0], n[1])
	case "unlock":
		b = b.Unlock(n[0], n[1])
	case "push":
		b, _ = b.Push(n[0], n[1], n[2], replica.Call{Char: 'p'})
	case "pop":
		b, _, _ = b.Pop(n[0], n[1], n[2])
	case "seal":
		b = b.Seal(n[0], n[1])
	case "fill":
		b = b.Fill(n[0], n[1], result(n[2]))
	case "leave":
		b = b.Leave(n[0])
	case "publish":
		r := replica.Replica{}
		if n[1] > 0 {
			r = ofText(t, n[1], "xy")
		}
		b = b.Publish(n[0], r)
	default:
		t.Fatalf("no deed: %q", text)
	}
	return b
}

// result is a Result of a number; of one below 0 all of it is something.
func result(n int) replica.Result {
	if n < 0 {
		return replica.Result{Err: api.ErrNone, N: n, Text: "of an error"}
	}
	return replica.Result{N: n, Text: "of " + strconv.Itoa(n)}
}

// way is the call that a text tells of: the thread, the kind, the slot.
func way(t *testing.T, text string, stripes int) pair {
	t.Helper()
	words := strings.Fields(text)
	n := numbers(t, []string{words[0], words[2]})
	k := replica.Kind(slices.IndexFunc(kinds(), func(k replica.Kind) bool { return k.String() == words[1] }))
	return begun(n[0], n[1], whole(k), stripes)
}

// behind is a board, and a call, behind deeds, with commas between them, of which "step" is
// the call's.
func behind(t *testing.T, b board.Board, p pair, text string) (board.Board, pair) {
	t.Helper()
	for _, s := range strings.Split(text, ", ") {
		switch s {
		case "":
		case "step":
			b, p = p.step(t, b)
		default:
			b = done(t, b, s)
		}
	}
	return b, p
}

// What leads to the states of the table.
const (
	pushing  = "step, step"
	freeing  = pushing + ", step"
	waiting  = freeing + ", step"
	fetching = waiting + ", 9 fill 7 41, step"
	sealing  = "step, step"
	opening  = sealing + ", step"
	second   = opening + ", step"
	opening2 = second + ", step, step"
	leaving  = opening2 + ", step"
)

// steps is the row of a table of tests: a call, what was done ahead, whether it is ready
// then, the acts of its next step, and the state behind that, with the error behind a done.
type steps struct {
	way, ahead string
	ready      string
	acts, then string
}

// holds has the row's step, on a board of two stripes of the room 1, and the Site 7.
func (c steps) holds(t *testing.T) {
	t.Helper()
	b, p := behind(t, fresh(t, 7, 2, 1), way(t, c.way, 2), c.ahead)
	if got := p.w.Ready(b); got != (c.ready == "ready") {
		t.Errorf("%s, behind %q: Ready is %v in %s", c.way, c.ahead, got, p.w.State())
	}
	next, p := p.step(t, b)
	told := next.Trace()[len(b.Trace()):]
	thread, _, _ := strings.Cut(c.way, " ")
	var want []string
	for _, a := range strings.Fields(c.acts) {
		want = append(want, thread+a)
	}
	if got := story(told); got != strings.Join(want, " ") {
		t.Errorf("%s, behind %q: it does %s, not %s", c.way, c.ahead, got, c.acts)
	}
	then := p.w.State()
	if p.w.Done() {
		then += " " + p.w.Result().Err.Word()
	}
	if then != c.then {
		t.Errorf("%s, behind %q: then %s, not %s", c.way, c.ahead, then, c.then)
	}
}

// TestP161Start has the first step of each kind, by the flag alone.
func TestP161Start(t *testing.T) {
	for _, k := range []string{"insert", "delete", "apply"} {
		steps{"3 " + k + " 7", "", "ready", "a2001", "lock"}.holds(t)
		steps{"3 " + k + " 7", "0 raise", "ready", "a2001", "done closed"}.holds(t)
		steps{"3 " + k + " 7", "0 lock 1, 0 seal 1, 0 leave, 0 publish 0, 9 fill 7 41", "ready", "a2001", "lock"}.holds(t)
	}
	for _, k := range []string{"read", "len", "mark", "where", "snapshot"} {
		steps{"3 " + k + " 7", "", "ready", "a2001", "look"}.holds(t)
		steps{"3 " + k + " 7", "0 raise", "ready", "a2001", "done closed"}.holds(t)
		steps{"3 " + k + " 7", "0 lock 1, 0 seal 1, 0 leave, 0 publish 0, 9 fill 7 41", "ready", "a2001", "look"}.holds(t)
	}
	for _, c := range []steps{
		{"3 close 7", "", "ready", "a2001 l2001", "shut"},
		{"3 close 7", "0 raise", "ready", "a2001 l2001", "done closed"},
		{"3 close 7", "3 raise", "ready", "a2001 l2001", "done closed"},
		{"3 close 7", "0 lock 0, 0 seal 0, 0 leave, 0 publish 0, 9 fill 7 41", "ready", "a2001 l2001", "shut"},
		{"3 none 7", "", "ready", "", "done form"},
		{"3 none 7", "0 raise", "ready", "", "done form"},
		{"3 none 7", "0 raise, 0 leave, 0 publish 0", "ready", "", "done form"},
	} {
		c.holds(t)
	}
}

// TestP161Write has the steps of a write, as the chapter's table has them.
func TestP161Write(t *testing.T) {
	for _, c := range []steps{
		{"3 insert 7", "step", "ready", "a1001", "push"},
		{"2 insert 7", "step", "ready", "a1000", "push"},
		{"3 insert 7", "step, 0 lock 1", "waits", "", "lock"},
		{"3 insert 7", "step, 3 lock 1", "waits", "", "lock"},
		{"3 insert 7", "step, 0 lock 0", "ready", "a1001", "push"},
		{"3 insert 7", "0 lock 1, step", "waits", "", "lock"},
		{"3 insert 7", "0 lock 1, step, step, step, 0 unlock 1", "ready", "a1001", "push"},
		{"3 insert 7", "step, 0 raise, 0 seal 1, 0 leave", "ready", "a1001", "push"},
		{"3 insert 7", "step, 9 fill 7 41", "ready", "a1001", "push"},

		{"3 delete 7", pushing, "ready", "r1 a2000 l2000 w1", "free"},
		{"2 delete 7", pushing, "ready", "r0 a2000 l2000 w0", "free"},
		{"3 delete 7", "9 push 1 5, " + pushing, "ready", "r1", "free"},
		{"3 delete 7", pushing + ", 9 push 1 5", "ready", "r1", "free"},
		{"3 delete 7", "9 push 0 5, " + pushing, "ready", "r1 a2000 l2000 w1", "free"},
		{"3 delete 7", "9 push 1 5, 9 pop 1 0, " + pushing, "ready", "r1 a2000 l2000 w1", "free"},
		{"3 delete 7", "9 seal 1, " + pushing, "ready", "r1", "free"},
		{"3 delete 7", pushing + ", 9 raise, 9 seal 0, 9 leave", "ready", "r1 a2000 l2000 w1", "free"},

		{"3 apply 7", freeing, "ready", "l1001", "wait"},
		{"2 apply 7", freeing, "ready", "l1000", "wait"},
		{"3 apply 7", freeing + ", 9 raise, 9 seal 1, 9 leave", "ready", "l1001", "wait"},
		{"3 apply 7", freeing + ", 9 fill 7 41", "ready", "l1001", "wait"},
		{"3 apply 7", "9 push 1 5, " + freeing, "ready", "l1001", "done busy"},
		{"3 apply 7", "9 push 1 5, " + freeing + ", 9 pop 1 0", "ready", "l1001", "done busy"},
		{"3 apply 7", "9 push 1 5, " + freeing + ", 9 fill 7 41", "ready", "l1001", "done busy"},
		{"3 apply 7", "9 seal 1, " + freeing, "ready", "l1001", "done closed"},
		{"3 apply 7", "9 push 1 5, 9 seal 1, " + freeing, "ready", "l1001", "done closed"},

		{"3 insert 7", waiting, "waits", "a3007", "wait"},
		{"3 insert 7", waiting + ", step, step", "waits", "a3007", "wait"},
		{"3 insert 7", waiting + ", 9 fill 8 41, 9 leave, 9 raise, 9 pop 1 0", "waits", "a3007", "wait"},
		{"3 insert 7", waiting + ", 9 fill 7 41", "ready", "a3007", "fetch"},
		{"3 insert 7", waiting + ", step, 9 fill 7 41", "ready", "a3007", "fetch"},
		{"3 insert 7", waiting + ", 0 lock 1, 9 fill 7 41", "ready", "a3007", "fetch"},
		{"3 insert 0", waiting + ", 9 fill 7 41", "waits", "a3000", "wait"},
		{"3 insert 800", waiting + ", 9 fill 800 41", "ready", "a3800", "fetch"},

		{"3 insert 7", fetching, "ready", "r107", "done ok"},
		{"3 insert 7", waiting + ", 9 fill 7 -3, step", "ready", "r107", "done none"},
		{"3 insert 7", fetching + ", 0 lock 1, 9 raise, 9 leave", "ready", "r107", "done ok"},
		{"3 insert 7", fetching + ", step", "waits", "", "done ok"},
		{"3 insert 7", "9 seal 1, " + freeing + ", step", "waits", "", "done closed"},
	} {
		c.holds(t)
	}
}

// TestP161LookOf has the second step of a call that looks, as the chapter's table has it.
func TestP161LookOf(t *testing.T) {
	for _, c := range []steps{
		{"3 read 7", "step", "ready", "a2002", "done ok"},
		{"3 len 7", "step", "ready", "a2002", "done ok"},
		{"3 snapshot 7", "step", "ready", "a2002", "done ok"},
		{"3 mark 7", "step", "ready", "a2002", "done range"},
		{"3 where 7", "step", "ready", "a2002", "done none"},
		{"3 mark 7", "step, 9 publish 7", "ready", "a2002", "done ok"},
		{"3 where 7", "step, 9 publish 7", "ready", "a2002", "done ok"},
		{"3 where 7", "step, 9 publish 8", "ready", "a2002", "done none"},
		{"3 mark 7", "9 publish 7, step", "ready", "a2002", "done ok"},
		{"3 read 7", "step, 9 publish 0", "ready", "a2002", "done closed"},
		{"3 read 7", "step, 0 raise, 0 seal 1, 0 lock 1, 0 lock 0, 0 leave", "ready", "a2002", "done ok"},
		{"3 read 7", "step, step", "waits", "", "done ok"},
		{"3 mark 7", "step, step", "waits", "", "done range"},
		{"3 none 7", "step", "waits", "", "done form"},
	} {
		c.holds(t)
	}
}

// TestP161Close has the steps of a Close, as the chapter's table has them.
func TestP161Close(t *testing.T) {
	for _, c := range []steps{
		{"3 close 7", "step", "ready", "a1000", "seal"},
		{"3 close 7", "step, 0 lock 0", "waits", "", "shut"},
		{"3 close 7", "step, 3 lock 0", "waits", "", "shut"},
		{"3 close 7", "step, 0 lock 1", "ready", "a1000", "seal"},
		{"3 close 7", "0 lock 0, step, step, step, 0 unlock 0", "ready", "a1000", "seal"},
		{"3 close 7", "step, 0 leave, 0 seal 0, 0 push 0 5", "ready", "a1000", "seal"},
		{"3 close 7", sealing, "ready", "w0", "open"},
		{"3 close 7", sealing + ", 0 seal 0, 0 leave", "ready", "w0", "open"},
		{"3 close 7", opening, "ready", "l1000", "shut"},
		{"3 close 7", opening + ", 0 leave, 0 lock 1", "ready", "l1000", "shut"},
		{"3 close 7", second, "ready", "a1001", "seal"},
		{"3 close 7", second + ", 0 lock 1", "waits", "", "shut"},
		{"3 close 7", second + ", 0 lock 0", "ready", "a1001", "seal"},
		{"3 close 7", second + ", step", "ready", "w1", "open"},
		{"3 close 7", opening2, "ready", "l1001", "away"},
		{"3 close 7", opening2 + ", 0 leave", "ready", "l1001", "away"},
		{"3 close 7", leaving, "waits", "a2003", "away"},
		{"3 close 7", leaving + ", step, step", "waits", "a2003", "away"},
		{"3 close 7", leaving + ", 9 fill 7 41, 9 publish 0", "waits", "a2003", "away"},
		{"3 close 7", leaving + ", 9 leave", "ready", "a2003", "done ok"},
		{"3 close 7", leaving + ", step, 9 leave, 0 lock 0, 0 lock 1", "ready", "a2003", "done ok"},
		{"3 close 7", "9 leave, " + leaving, "ready", "a2003", "done ok"},
		{"3 close 7", leaving + ", 9 leave, step", "waits", "", "done ok"},
		{"3 close 7", "0 raise, step", "waits", "", "done closed"},
	} {
		c.holds(t)
	}
}

// TestP161Example is the chapter's example.
func TestP161Example(t *testing.T) {
	w := client.Begin(0, 0, replica.Call{Kind: replica.Read})
	b := fresh(t, 1, 1, 1)
	for _, want := range []string{"start", "look", "done"} {
		if w.State() != want || w.Done() != (want == "done") {
			t.Fatal(w.State(), want)
		}
		b, w = w.Step(b)
	}
}

// through has a call take all its steps, with its slot filled, and the board gone, where it
// waits for that: the trace of all, and the states.
func through(t *testing.T, b board.Board, p pair, x replica.Result) (board.Board, pair, string) {
	t.Helper()
	var states []string
	for !p.w.Done() {
		states = append(states, p.w.State())
		if !p.w.Ready(b) {
			b = b.Fill(9, p.m.slot, x).Leave(9)
		}
		b, p = p.step(t, b)
	}
	return b, p, strings.Join(append(states, p.w.State()), " ")
}

// TestP161EachKind has calls of all kinds, and of none, go through.
func TestP161EachKind(t *testing.T) {
	writing, looking, wrong := "start lock push free wait fetch done", "start look done", "start done"
	want := map[replica.Kind]string{replica.Insert: writing, replica.Delete: writing, replica.Apply: writing,
		replica.Read: looking, replica.Len: looking, replica.Mark: looking, replica.Where: looking, replica.Snapshot: looking,
		replica.Close: "start shut seal open shut seal open shut seal open away done",
		-1:            wrong, 9: wrong, 10: wrong, -9: wrong, 77: wrong, math.MaxInt: wrong, math.MinInt: wrong, 256: wrong, 1 << 32: wrong}
	for k, row := range want {
		b, p, states := through(t, fresh(t, 7, 3, 2), begun(4, 5, whole(k), 3), result(6))
		if states != row {
			t.Errorf("%d: %s, not %s", k, states, row)
		}
		if row == wrong && (len(b.Trace()) > 0 || p.w.Result() != replica.Result{Err: api.ErrForm}) {
			t.Errorf("%d: %s, %+v", k, story(b.Trace()), p.w.Result())
		}
		if k.Writes() && p.w.Result() != result(6) {
			t.Errorf("%d: %+v", k, p.w.Result())
		}
	}
}

// TestP161EachThread has a write wait in the stripe that its thread's number leads to.
func TestP161EachThread(t *testing.T) {
	for stripes := 1; stripes <= api.MaxStripes; stripes++ {
		for thread := range 16 {
			b, p := fresh(t, 1, stripes, 1), begun(thread, 5, whole(replica.Insert), stripes)
			for range 4 {
				b, p = p.step(t, b)
			}
			for s := range stripes {
				if got := len(b.Queue(s)) == 1; got != (s == thread%stripes) {
					t.Errorf("%d of %d: %v in %d", thread, stripes, got, s)
				}
			}
			s := strconv.Itoa(thread % stripes)
			tells := strings.NewReplacer("S", s, "T", strconv.Itoa(thread))
			if got, want := story(b.Trace()), tells.Replace("Ta2001 Ta100S TrS Ta2000 Tl2000 TwS Tl100S"); got != want {
				t.Errorf("%d of %d: %s, not %s", thread, stripes, got, want)
			}
		}
	}
}

// TestP161EachStripe has a Close seal all stripes, each of which it finds locked first.
func TestP161EachStripe(t *testing.T) {
	for stripes := 1; stripes <= api.MaxStripes; stripes++ {
		b, p := fresh(t, 1, stripes, 1), begun(3, 5, whole(replica.Close), stripes)
		b, p = p.step(t, b)
		for s := range stripes {
			b, _ = b.Lock(9, s)
			for range 3 {
				b, p = p.step(t, b)
			}
			if p.w.State() != "shut" || p.w.Ready(b) || b.Holder(s) != 9 {
				t.Fatal(p.w.State(), s)
			}
			b = b.Unlock(9, s)
			for _, want := range []int{3, 3, -1} {
				b, p = p.step(t, b)
				if b.Holder(s) != want {
					t.Fatalf("%d of %d: it is %d's", s, stripes, b.Holder(s))
				}
			}
			for k := range stripes {
				if _, empty := b.Empty(9, k); empty != (k <= s) {
					t.Errorf("%d of %d: of %d %v", s, stripes, k, empty)
				}
			}
		}
		if p.w.State() != "away" || p.w.Ready(b) {
			t.Fatal(stripes, p.w.State())
		}
		if b, p = p.step(t, b.Leave(9)); p.w.Result() != (replica.Result{}) || !p.w.Done() {
			t.Fatal(stripes, p.w.State(), p.w.Result())
		}
	}
}

// TestP161EachSlot has a write answered by its slot, and by no other one.
func TestP161EachSlot(t *testing.T) {
	for slot := range 801 {
		b, p := fresh(t, 1, 1, 1), begun(2, slot, whole(replica.Delete), 1)
		for range 4 {
			b, p = p.step(t, b)
		}
		if l := b.Queue(0); len(l) != 1 || l[0].Slot != slot || l[0].Ticket != 0 {
			t.Fatalf("%d: %+v", slot, l)
		}
		for _, other := range []int{slot - 1, slot + 1, 0, 800} {
			if other != slot {
				b = b.Fill(9, other, result(3))
			}
		}
		if p.w.Ready(b) {
			t.Fatal(slot)
		}
		b = b.Fill(9, slot, result(slot))
		for range 2 {
			b, p = p.step(t, b)
		}
		if p.w.Result() != result(slot) {
			t.Errorf("%d: %+v", slot, p.w.Result())
		}
	}
}

// TestP161Calls has calls come into the queue as they were handed in.
func TestP161Calls(t *testing.T) {
	for _, c := range []replica.Call{{}, whole(replica.Insert), whole(replica.Delete), whole(replica.Apply),
		{Kind: replica.Delete, At: math.MinInt, Char: math.MaxInt32}, {Kind: replica.Insert, At: math.MaxInt, Char: -1}} {
		b, p := fresh(t, 1, 1, 2), begun(2, 3, c, 1)
		b, _ = b.Push(9, 0, 1, replica.Call{})
		for range 3 {
			b, p = p.step(t, b)
		}
		if l := b.Queue(0); len(l) != 2 || l[1] != (board.Entry{Ticket: 1, Slot: 3, Call: c}) {
			t.Errorf("%+v: %+v", c, l)
		}
	}
}

// TestP161Results has what was filled in come out as it is, also beside an Err.
func TestP161Results(t *testing.T) {
	for _, x := range []replica.Result{{}, result(5), result(-5), {Err: api.ErrRange}, {N: math.MinInt}, {Text: "\xff\x00"}, {Err: 99, N: 1, Text: "x"}} {
		for _, k := range []replica.Kind{replica.Insert, replica.Delete, replica.Apply} {
			_, p, _ := through(t, fresh(t, 1, 1, 1), begun(2, 3, whole(k), 1), x)
			if p.w.Result() != x {
				t.Errorf("%+v, not %+v", p.w.Result(), x)
			}
		}
	}
}

// TestP161LooksAtPublished has calls that look answer what the replica does that was
// published last, ahead of the second step.
func TestP161LooksAtPublished(t *testing.T) {
	closed, _ := ofText(t, 4, "q").Do(replica.Call{Kind: replica.Close})
	replicas := []replica.Replica{ofText(t, 7, ""), ofText(t, 7, "a"), ofText(t, 7, "añb"), ofText(t, 8, "xyz"), closed, {}}
	for _, first := range replicas {
		for _, last := range replicas {
			for _, k := range []replica.Kind{replica.Read, replica.Len, replica.Mark, replica.Where, replica.Snapshot} {
				for _, c := range []replica.Call{{Kind: k}, whole(k), {Kind: k, At: -1, Anchor: id.ID{Counter: 1, Site: 7}}, {Kind: k, At: 3}} {
					b, w := client.Begin(1, 2, c).Step(fresh(t, 7, 1, 1).Publish(9, first))
					_, w = w.Step(b.Publish(9, last))
					if want := last.Look(c); w.Result() != want {
						t.Errorf("%+v: %+v, not %+v", c, w.Result(), want)
					}
				}
			}
		}
	}
}

// wild are numbers that are no thread's, no slot's, or no kind's, and some that are.
func wild() []int {
	return []int{0, 3, 8, 15, 16, 800, 801, -1, -16, -1000, 1 << 32, -1 << 32, math.MaxInt, math.MinInt, math.MaxInt - 100, math.MinInt + 1}
}

// wildly has a call take steps on boards, in turns, and asks it for all.
func wildly(w client.Way, l ...board.Board) {
	for range 12 {
		for i := range l {
			w.Ready(l[i])
			l[i], w = w.Step(l[i])
			w.Ready(l[i])
			w.Done()
			w.Result()
			w.State()
			l[i].Trace()
		}
	}
}

// TestR1Wild: whatever the numbers and the boards are, calls end, without a panic; of the
// zero call, and the zero board, too, and of boards that change from step to step.
func TestR1Wild(t *testing.T) {
	for _, thread := range wild() {
		for _, slot := range wild() {
			for _, k := range wild() {
				for _, c := range []replica.Call{{Kind: replica.Kind(k), At: k}, whole(replica.Insert), whole(replica.Close)} {
					w := client.Begin(thread, slot, c)
					wildly(w, fresh(t, 1, 3, 1))
					wildly(w, fresh(t, 1, 3, 1).Fill(thread, slot, result(1)).Leave(thread))
					wildly(w, board.Board{})
				}
			}
		}
	}
	for _, k := range kinds() {
		for _, w := range []client.Way{{}, client.Begin(3, 7, whole(k))} {
			wildly(w, board.Board{})
			wildly(w, board.Board{}, fresh(t, 1, 8, 1))
			wildly(w, fresh(t, 1, 8, 1), board.Board{})
			wildly(w, fresh(t, 1, 8, 2), fresh(t, 1, 1, 1), fresh(t, 1, 3, 1))
		}
	}
}

// TestR1Zero: the zero call ends, like others, and is in the state start.
func TestR1Zero(t *testing.T) {
	zero := pair{client.Way{}, begun(0, 0, replica.Call{}, 1).m}
	b := fresh(t, 1, 1, 1)
	zero.stands(t, b)
	if _, p, states := through(t, b, zero, result(2)); states != "start lock push free wait fetch done" || p.w.Result() != result(2) {
		t.Error(states, p.w.Result())
	}
}
