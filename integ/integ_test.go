package integ_test

import (
	"math"
	"slices"
	"strconv"
	"strings"
	"testing"

	"selvedge/api"
	"selvedge/board"
	"selvedge/integ"
	"selvedge/replica"
	"selvedge/version"
)

// numbers are those of words; 0 of those that aren't there.
func numbers(t *testing.T, words []string) [4]int {
	t.Helper()
	var l [4]int
	for i, w := range words {
		n, e := strconv.Atoi(w)
		if e != nil {
			t.Fatalf("no number: %q", w)
		}
		l[i] = n
	}
	return l
}

// done is a board behind what a text tells of: a thread, what it does, and the stripe or
// slot; of a push the slot, and which of the calls, of a pop the ticket come behind; of a
// publish the replica's Site, whose text is xy.
func done(t *testing.T, b board.Board, text string) board.Board {
	t.Helper()
	words := strings.Fields(text)
	n := numbers(t, append(words[:1:1], words[2:]...))
	switch words[1] {
	case "raise":
		b, _ = b.Raise(n[0])
	case "lock":
		b, _ = b.Lock(n[0], n[1])
	case "unlock":
		b = b.Unlock(n[0], n[1])
	case "push":
		b, _ = b.Push(n[0], n[1], n[2], calls()[n[3]])
	case "pop":
		b, _, _ = b.Pop(n[0], n[1], n[2])
	case "seal":
		b = b.Seal(n[0], n[1])
	case "fill":
		b = b.Fill(n[0], n[1], replica.Result{N: 77})
	case "leave":
		b = b.Leave(n[0])
	case "publish":
		b = b.Publish(n[0], ofText(t, n[1], "xy"))
	default:
		t.Fatalf("no deed: %q", text)
	}
	return b
}

// behind is a board, and an integrator, behind deeds, with commas between them, of which
// "step" is the integrator's.
func behind(t *testing.T, b board.Board, p pair, text string) (board.Board, pair) {
	t.Helper()
	for _, s := range strings.Split(text, ", ") {
		switch s {
		case "":
		case "step":
			b, p = p.step(t, b)
		default:
			b = done(t, b, s)
		}
	}
	return b, p
}

// ahead is as many steps as that.
func ahead(steps int) string {
	return strings.TrimSuffix(strings.Repeat("step, ", steps), ", ")
}

// row is that of a table of tests: what was done ahead, whether the integrator of the
// thread 3 is ready then, the acts of its next step, and the state behind that.
type row struct {
	ahead, ready, acts, then string
}

// holds has the row's step, on a board of two stripes of the room 2, and the Site 7.
func (c row) holds(t *testing.T) {
	t.Helper()
	b := fresh(t, 7, 2, 2)
	b, p := behind(t, b, begun(t, 3, b, 2), c.ahead)
	if got := p.g.Ready(b); got != (c.ready == "ready") {
		t.Errorf("behind %q: Ready is %v in %s", c.ahead, got, p.g.State())
	}
	next, q := p.step(t, b)
	var want []string
	for _, a := range strings.Fields(c.acts) {
		want = append(want, "3"+a)
	}
	if got := story(next.Trace()[len(b.Trace()):]); got != strings.Join(want, " ") {
		t.Errorf("behind %q: it does %s, not %s", c.ahead, got, c.acts)
	}
	if q.g.State() != c.then {
		t.Errorf("behind %q: then %s, not %s", c.ahead, q.g.State(), c.then)
	}
}

// What leads to the states of the table.
var (
	popping    = ahead(1)
	checking   = ahead(2)
	skipping   = ahead(3)
	second     = ahead(4)
	pushed     = "9 push 0 5 0"
	dropping   = pushed + ", " + ahead(2)
	applying   = pushed + ", " + ahead(3)
	replying   = pushed + ", " + ahead(4)
	replied    = pushed + ", " + ahead(5)
	sealed     = "9 seal 0, 9 seal 1"
	lastSkip   = sealed + ", " + ahead(7)
	leaving    = sealed + ", " + ahead(8)
	left       = sealed + ", " + ahead(9)
	afterwards = sealed + ", " + ahead(12)
)

// TestP171Table has each row of the chapter's table, written out: whether it is ready, what
// it does, and what comes then.
func TestP171Table(t *testing.T) {
	for _, c := range []row{
		{"", "ready", "a1000", "pop"},
		{"9 lock 0", "waits", "", "grab"},
		{"3 lock 0", "waits", "", "grab"},
		{"9 lock 0, step, step", "waits", "", "grab"},
		{"9 lock 0, step, 9 unlock 0", "ready", "a1000", "pop"},
		{"9 lock 1", "ready", "a1000", "pop"},
		{"9 raise, 9 seal 0, 9 leave, 9 publish 7, 9 fill 5", "ready", "a1000", "pop"},
		{second, "ready", "a1001", "pop"},
		{second + ", 9 lock 1", "waits", "", "grab"},
		{second + ", 9 lock 0", "ready", "a1001", "pop"},
		{ahead(8), "ready", "a1000", "pop"},
		{ahead(12), "ready", "a1001", "pop"},
		{replied, "ready", "a1000", "pop"},

		{popping, "ready", "r0", "check"},
		{pushed + ", " + popping, "ready", "r0 w0", "drop"},
		{popping + ", 9 push 0 5 1", "ready", "r0 w0", "drop"},
		{popping + ", 9 push 1 5 1", "ready", "r0", "check"},
		{"9 push 1 5 0, 9 push 0 5 0, step", "ready", "r0", "check"},
		{"9 push 0 5 0, 9 pop 0 0, 9 push 0 5 0, step", "ready", "r0", "check"},
		{"9 push 0 5 0, 9 seal 0, step", "ready", "r0 w0", "drop"},
		{second + ", step", "ready", "r1", "check"},
		{"9 push 1 5 0, " + second + ", step", "ready", "r1 w1", "drop"},
		{"9 push 0 6 0, " + replied + ", step", "ready", "r0 w0", "drop"},
		{replied + ", 9 push 1 5 0, step", "ready", "r0", "check"},

		{checking, "ready", "r0", "skip"},
		{"9 seal 0, " + checking, "ready", "r0", "skip"},
		{second + ", step, step", "ready", "r1", "skip"},
		{checking + ", 9 push 0 5 0", "ready", "r0", "skip"},

		{skipping, "ready", "l1000", "grab"},
		{"9 seal 0, " + skipping, "ready", "l1000", "grab"},
		{"9 seal 1, " + skipping, "ready", "l1000", "grab"},
		{sealed + ", " + skipping, "ready", "l1000", "grab"},
		{ahead(7), "ready", "l1001", "grab"},
		{"9 seal 0, " + ahead(7), "ready", "l1001", "grab"},
		{"9 seal 1, " + ahead(7), "ready", "l1001", "grab"},
		{lastSkip, "ready", "l1001", "leave"},
		{"9 seal 1, " + ahead(8) + ", 9 seal 0, step, step, step", "ready", "l1000", "leave"},
		{skipping + ", " + sealed + ", " + ahead(4), "ready", "l1001", "grab"},
		{sealed + ", " + ahead(7) + ", 9 lock 0, 9 raise", "ready", "l1001", "leave"},
		{"9 push 1 5 0, 9 push 1 6 0, 9 pop 1 0, " + sealed + ", " + ahead(7), "ready", "l1001", "grab"},

		{dropping, "ready", "l1000", "apply"},
		{"9 push 1 5 0, " + ahead(6), "ready", "l1001", "apply"},

		{applying, "ready", "l2002", "reply"},
		{applying + ", 9 lock 0, 9 lock 1", "ready", "l2002", "reply"},
		{"9 push 0 5 3, " + ahead(3), "ready", "l2002", "reply"},
		{"9 push 0 5 9, " + ahead(3), "ready", "l2002", "reply"},
		{"9 push 0 5 13, " + ahead(3), "ready", "l2002", "reply"},
		{"9 push 0 5 14, " + ahead(3), "ready", "l2002", "reply"},

		{replying, "ready", "w105 l3005", "grab"},
		{replying + ", 9 fill 5, 9 lock 0, 9 lock 1, 9 seal 0, 9 seal 1", "ready", "w105 l3005", "grab"},
		{"9 push 0 0 0, " + ahead(4), "ready", "w100 l3000", "grab"},
		{"9 push 0 800 0, " + ahead(4), "ready", "w900 l3800", "grab"},

		{leaving, "ready", "l2003", "done"},
		{leaving + ", 9 lock 0, 9 leave", "ready", "l2003", "done"},
		{left, "waits", "", "done"},
		{left + ", step, step", "waits", "", "done"},
		{left + ", 9 lock 0, 9 lock 1", "waits", "", "done"},
		{afterwards, "waits", "", "done"},
	} {
		c.holds(t)
	}
}

// TestP171Example is the chapter's example: on a board with one entry in its only stripe.
func TestP171Example(t *testing.T) {
	b, e := fresh(t, 1, 1, 1).Push(0, 0, 4, replica.Call{Char: 'a'})
	if e != api.OK {
		t.Fatal(e)
	}
	g, e := integ.Begin(1, b)
	if e != api.OK {
		t.Fatal(e)
	}
	for _, want := range []string{"grab", "pop", "drop", "apply", "reply"} {
		if g.State() != want || !g.Ready(b) {
			t.Fatal(g.State(), want)
		}
		b, g = g.Step(b)
	}
	b, filled := b.Filled(0, 4)
	_, x := b.Fetch(0, 4)
	if want := (replica.Result{N: 1, Text: "+1.1 - 61"}); !filled || x != want {
		t.Error(filled, x)
	}
	_, r := b.Load(0)
	if want := (version.Change{Seq: 1, ID: g.Changes()[0].ID, Char: 'a'}); r.Version().Text() != "a" || !slices.Equal(g.Changes(), []version.Change{want}) {
		t.Error(r.Version().Text(), g.Changes())
	}
}

// isZero says whether an integrator is the zero one, by all that it tells.
func isZero(g integ.Integ) bool {
	_, l := g.Buffer(0).Take(9)
	return g.State() == "grab" && !g.Done() && g.Next() == 0 && len(g.Changes()) == 0 && g.Replica().Closed() &&
		len(l) == 0 && room(g.Buffer(0)) == 0 && room(g.Buffer(1)) == 0
}

// TestP171Sizes has a buffer for each size, and none beside a size that may not be.
func TestP171Sizes(t *testing.T) {
	b := fresh(t, 1, 1, 1)
	for size := -3; size <= 70; size++ {
		for _, sizes := range [][]int{{size}, {size, 1, 64}, {1, size, 64}, {64, 1, size}, {size, size}} {
			g, e := integ.Begin(0, b, sizes...)
			if size < 1 || size > 64 {
				if e != api.ErrRange || !isZero(g) {
					t.Errorf("%v: %v, in %s", sizes, e, g.State())
				}
				continue
			}
			if e != api.OK || isZero(g) {
				t.Errorf("%v: %v", sizes, e)
			}
			begun(t, 0, b, sizes...).stands(t, b)
		}
	}
	for _, size := range []int{math.MaxInt, math.MinInt, 1 << 32, 1<<32 + 1, -64, 256} {
		if g, e := integ.Begin(0, b, 5, size); e != api.ErrRange || !isZero(g) {
			t.Errorf("%d: %v", size, e)
		}
	}
	if g, e := integ.Begin(0, b); e != api.OK || room(g.Buffer(0)) != 0 || g.Replica().Closed() {
		t.Error(e)
	}
	var most []int
	for n := range 1000 {
		most = append(most, 1+n%64)
	}
	begun(t, 0, b, most...).stands(t, b)
}

// TestP171Begin has an integrator begin with the replica that the board has, whatever that
// is, and the board tell of nothing but its steps.
func TestP171Begin(t *testing.T) {
	closed, _ := ofText(t, 4, "q").Do(replica.Call{Kind: replica.Close})
	for _, r := range []replica.Replica{ofText(t, 7, ""), ofText(t, 7, "a"), ofText(t, 9, "xyz"), closed, {}} {
		b := fresh(t, 1, 1, 3).Publish(9, ofText(t, 1, "elder")).Publish(9, r)
		for n := range 3 {
			b, _ = b.Push(9, 0, n, calls()[2*n])
		}
		was := tell(b)
		p := begun(t, 2, b, 1, 2)
		same(t, b, was)
		p.stands(t, b)
		if got := tale(p.g.Replica()); got != tale(r) {
			t.Errorf("%s, not %s", got, tale(r))
		}
		next, _ := p.g.Step(b)
		if got := story(next.Trace()[len(b.Trace()):]); got != "2a1000" {
			t.Errorf("behind a first step: %s", got)
		}
		for range 15 {
			b, p = p.step(t, b)
		}
		if p.g.Next() != 3 {
			t.Error(p.g.Next())
		}
	}
}

// TestP171PublishedLater has what others publish behind a Begin change nothing of an
// integrator's replica.
func TestP171PublishedLater(t *testing.T) {
	b := fresh(t, 7, 1, 4)
	b, p := behind(t, b, begun(t, 3, b), "9 publish 8, 9 push 0 5 0, step, step, step, 9 publish 8, step, step")
	if _, r := b.Load(0); tale(r) != tale(ofText(t, 7, "a")) || tale(p.g.Replica()) != tale(r) {
		t.Error(tale(r), "and", tale(p.g.Replica()))
	}
}

// TestP171EachThread has all that is done be the thread's that an integrator is of.
func TestP171EachThread(t *testing.T) {
	for thread := range 16 {
		b := done(t, fresh(t, 7, 1, 1), "9 push 0 5 0")
		told := len(b.Trace())
		b, p := behind(t, b, begun(t, thread, b), "step, step")
		if b.Holder(0) != thread {
			t.Errorf("the lock is %d's", b.Holder(0))
		}
		b, _ = behind(t, b, p, "step, step, step, 9 seal 0, step, step, step, step, step, step")
		want := "a1000 r0 w0 l1000 l2002 w105 l3005 9w0 a1000 r0 r0 l1000 l2003"
		var words []string
		for _, w := range strings.Fields(want) {
			if !strings.HasPrefix(w, "9") {
				w = strconv.Itoa(thread) + w
			}
			words = append(words, w)
		}
		if got := story(b.Trace()[told:]); got != strings.Join(words, " ") {
			t.Errorf("%d: %s", thread, got)
		}
	}
}

// TestP171EachStripe has an integrator go round all stripes, and find an entry in any.
func TestP171EachStripe(t *testing.T) {
	for stripes := 1; stripes <= api.MaxStripes; stripes++ {
		for there := range stripes {
			b := fresh(t, 7, stripes, 1)
			p := begun(t, 3, b, 2)
			for range 2 * stripes {
				b, p = behind(t, b, p, ahead(4))
			}
			told := len(b.Trace())
			b = done(t, b, "9 push "+strconv.Itoa(there)+" 5 0")
			for n := 0; p.g.Next() == 0; n++ {
				if b, p = p.step(t, b); n > 4*stripes+5 {
					t.Fatalf("%d of %d isn't found", there, stripes)
				}
			}
			var want []string
			for s := range there {
				want = append(want, strings.ReplaceAll("3a100S 3rS 3rS 3l100S", "S", strconv.Itoa(s)))
			}
			want = append(want, strings.ReplaceAll("3a100S 3rS 3wS 3l100S", "S", strconv.Itoa(there)), "3l2002 3w105 3l3005")
			if got := story(b.Trace()[told+4:]); got != strings.Join(want, " ") {
				t.Errorf("%d of %d: %s", there, stripes, got)
			}
		}
	}
}

// TestP171Leaves has an integrator be gone no sooner than it found each stripe sealed and
// empty, in whichever order they were sealed.
func TestP171Leaves(t *testing.T) {
	for stripes := 1; stripes <= api.MaxStripes; stripes++ {
		for first := range stripes {
			b := fresh(t, 7, stripes, 1)
			p := begun(t, 3, b)
			for n := range stripes {
				for range 2 * stripes {
					b, p = behind(t, b, p, ahead(4))
				}
				if p.g.State() != "grab" {
					t.Fatalf("%s behind %d of %d", p.g.State(), n, stripes)
				}
				b = b.Seal(9, (first+n)%stripes)
			}
			for n := 0; !p.g.Done(); n++ {
				if b, p = p.step(t, b); n > 4*stripes+1 {
					t.Fatalf("%d stripes: it doesn't leave", stripes)
				}
			}
			if _, gone := b.Gone(0); !gone || p.g.Ready(b) {
				t.Error(stripes, gone)
			}
		}
	}
}

// TestP171FinishedOnce has a stripe be finished for good, so that what others took off a
// queue meanwhile counts no less.
func TestP171FinishedOnce(t *testing.T) {
	b := fresh(t, 7, 3, 1)
	_, p := behind(t, b, begun(t, 3, b), "9 push 2 5 0, 9 seal 0, 9 seal 1, 9 seal 2, "+ahead(8)+
		", 9 pop 2 0, step, step, step, step, step")
	if !p.g.Done() || p.g.Next() != 0 || len(p.g.Changes()) > 0 {
		t.Error(p.g.State(), p.g.Next())
	}
	open := fresh(t, 7, 2, 1)
	b, p = behind(t, open, begun(t, 3, open), "9 seal 0, "+ahead(8))
	_, p = behind(t, open, p, ahead(4))
	if _, p = behind(t, b, p, "9 seal 1, "+ahead(4)); p.g.State() != "leave" {
		t.Error(p.g.State())
	}
}

// TestP171EachSlot has an entry's slot be filled, and no other one.
func TestP171EachSlot(t *testing.T) {
	for slot := range 801 {
		b := done(t, fresh(t, 7, 1, 1), "9 push 0 "+strconv.Itoa(slot)+" 0")
		b, _ = behind(t, b, begun(t, 3, b), ahead(5))
		for _, k := range []int{slot, slot - 1, slot + 1, 0, 800} {
			if _, filled := b.Filled(0, k); filled != (k == slot) {
				t.Errorf("of %d: %d is filled: %v", slot, k, filled)
			}
		}
	}
}

// TestP171EachCall has each call be answered, and what came of it be published, as the
// replica does it, ahead of and behind some others.
func TestP171EachCall(t *testing.T) {
	for i, first := range calls() {
		for k, then := range calls() {
			b := fresh(t, 7, 1, 2)
			b, _ = b.Push(9, 0, 1, first)
			b, _ = b.Push(9, 0, 2, then)
			p := begun(t, 3, b, 1, 3)
			_, r := b.Load(0)
			for slot, c := range []replica.Call{first, then} {
				next, x, l := r.Changes(c)
				r = next
				was := len(p.g.Changes())
				b, p = behind(t, b, p, ahead(5))
				if _, got := b.Fetch(0, slot+1); got != x {
					t.Errorf("%d, %d: %+v, not %+v", i, k, got, x)
				}
				if _, got := b.Load(0); tale(got) != tale(r) || tale(p.g.Replica()) != tale(r) {
					t.Errorf("%d, %d: %s, not %s", i, k, tale(got), tale(r))
				}
				if got := p.g.Changes()[was:]; !slices.Equal(got, l) {
					t.Errorf("%d, %d: %+v, not %+v", i, k, got, l)
				}
			}
		}
	}
}

// TestP171Several has a call that leads to several changes put each of them into buffers of
// all sizes, behind what is there.
func TestP171Several(t *testing.T) {
	var sizes []int
	for size := 1; size <= api.MaxRing; size++ {
		sizes = append(sizes, size)
	}
	b := fresh(t, 7, 1, 16)
	for _, n := range []int{0, 5, 6, 7, 1} {
		b, _ = b.Push(9, 0, n, calls()[n])
	}
	p := begun(t, 3, b, sizes...)
	for _, want := range []int{1, 1, 1, 4, 5} {
		if b, p = behind(t, b, p, ahead(5)); len(p.g.Changes()) != want {
			t.Fatalf("%d changes, not %d", len(p.g.Changes()), want)
		}
	}
	for n := range 70 {
		b, _ = b.Push(9, 0, n, calls()[0])
		for range 5 {
			b, p.g = p.g.Step(b)
		}
		l := p.g.Changes()
		if len(l) != 6+n || l[5+n].Seq != int64(6+n) {
			t.Fatalf("%d: %+v", n, l)
		}
		for i := range sizes {
			p.hears(t, i, l)
		}
	}
}

// TestP171Handed has nothing that was handed in or out lead to what an integrator keeps.
func TestP171Handed(t *testing.T) {
	sizes := make([]int, 2, 9)
	sizes[0], sizes[1] = 2, 3
	b := done(t, done(t, fresh(t, 7, 1, 4), "9 push 0 5 0"), "9 push 0 6 2")
	p := begun(t, 3, b, sizes...)
	if !slices.Equal(sizes[:9], []int{2, 3, 0, 0, 0, 0, 0, 0, 0}) {
		t.Error(sizes[:9])
	}
	clear(sizes)
	sizes = append(sizes, 64)
	b, p = behind(t, b, p, ahead(10))
	l := p.g.Changes()
	l[0].Seq, l[1].Char = 99, 'w'
	_ = append(l[:1], version.Change{Seq: 98})
	p.g.Buffer(0).Put(version.Change{Seq: 97})
	p.stands(t, b)
	_, p = behind(t, b, p, "9 push 0 5 2, 9 push 0 5 1, "+ahead(10))
	p.stands(t, b)
	clear(l)
	p.stands(t, b)
	if _, x := p.g.Buffer(1).Take(1); x[0] != (version.Change{Seq: 1, ID: p.g.Changes()[0].ID, Char: 'a'}) {
		t.Error(x)
	}
}

// TestP171Buffer has the buffers by their numbers, and the zero one of all other numbers.
func TestP171Buffer(t *testing.T) {
	b := done(t, fresh(t, 7, 1, 1), "9 push 0 5 0")
	_, p := behind(t, b, begun(t, 3, b, 5, 64, 1), ahead(5))
	for i, want := range []int{5, 64, 1} {
		if got := p.g.Buffer(i); got.Len() != 1 || room(got) != want {
			t.Errorf("%d: %d, %d", i, got.Len(), room(got))
		}
	}
	for _, i := range []int{-1, 3, 4, 64, math.MaxInt, math.MinInt, 1 << 32, -1 << 32} {
		if got := p.g.Buffer(i); got.Len() != 0 || room(got) != 0 {
			t.Errorf("%d: %d, %d", i, got.Len(), room(got))
		}
	}
}

// wild are numbers that are no thread's, or no size, and some that are.
func wild() []int {
	return []int{0, 3, 15, 16, 64, 65, -1, -16, -1000, 1 << 32, -1 << 32, math.MaxInt, math.MinInt, math.MinInt + 1}
}

// wildly has an integrator take steps on boards, in turns, and asks it for all.
func wildly(g integ.Integ, l ...board.Board) {
	for range 12 {
		for i := range l {
			g.Ready(l[i])
			l[i], g = g.Step(l[i])
			g.Ready(l[i])
			g.Done()
			g.State()
			g.Next()
			g.Changes()
			g.Replica()
			for _, n := range wild() {
				g.Buffer(n)
			}
			l[i].Trace()
		}
	}
}

// TestR1Wild: whatever the numbers and the boards are, calls end, without a panic; of the
// zero integrator, and the zero board, too, and of boards that change from step to step.
func TestR1Wild(t *testing.T) {
	full := fresh(t, 7, 3, 16)
	for n, c := range calls() {
		full, _ = full.Push(n, n%3, wild()[n%len(wild())], c)
	}
	shut := fresh(t, 7, 8, 1)
	for s := range 8 {
		shut = shut.Seal(9, s)
	}
	boards := []board.Board{{}, full, shut, fresh(t, 1, 1, 1).Seal(0, 0), full.Publish(9, replica.Replica{})}
	for _, thread := range wild() {
		for _, size := range wild() {
			for _, b := range boards {
				g, _ := integ.Begin(thread, b, 1, size)
				for _, c := range boards {
					wildly(g, c)
					wildly(g, b, c)
				}
			}
		}
	}
	for _, b := range boards {
		wildly(integ.Integ{}, b)
		wildly(integ.Integ{}, b, board.Board{})
		wildly(integ.Integ{}, boards...)
		integ.Begin(0, b, wild()...)
	}
}

// TestR1Zero: the zero integrator takes its steps, too; its replica is closed.
func TestR1Zero(t *testing.T) {
	if !isZero(integ.Integ{}) {
		t.Error("the zero integrator isn't zero")
	}
	b := done(t, fresh(t, 7, 1, 1), "9 push 0 5 0")
	zero := pair{integ.Integ{}, model{stripes: 1}}
	zero.stands(t, b)
	b, p := behind(t, b, zero, ahead(5))
	if _, x := b.Fetch(0, 5); x != (replica.Result{Err: api.ErrClosed}) || p.g.Next() != 1 {
		t.Error(x, p.g.Next())
	}
}
