package pend_test

import (
	"math"
	"math/rand"
	"slices"
	"strings"
	"testing"

	"selvedge/api"
	"selvedge/core"
	"selvedge/id"
	"selvedge/op"
	"selvedge/pend"
	"selvedge/pmap"
	"selvedge/ptree"
)

func mk(counter int64, site int) id.ID { return id.ID{Counter: counter, Site: site} }

func insertOf(a, anchor id.ID, char rune) op.Op {
	return op.Op{Kind: op.Insert, ID: a, Anchor: anchor, Char: char}
}

func deleteOf(a id.ID) op.Op { return op.Op{Kind: op.Delete, ID: a} }

// ops are the operations of texts, with a comma between them.
func ops(t *testing.T, s string) []op.Op {
	t.Helper()
	var l []op.Op
	if s == "" {
		return l
	}
	for _, x := range strings.Split(s, ", ") {
		o, e := op.Parse(x)
		if e != api.OK {
			t.Fatalf("Parse(%q): %v", x, e)
		}
		l = append(l, o)
	}
	return l
}

// texts are operations as ops reads them.
func texts(l []op.Op) string {
	var s []string
	for _, o := range l {
		s = append(s, o.String())
	}
	return strings.Join(s, ", ")
}

// top is the greatest Counter of operations' ids.
func top(l []op.Op) int64 {
	var n int64
	for _, o := range l {
		if o.ID.Counter > n {
			n = o.ID.Counter
		}
	}
	return n
}

// same holds all that a room tells against the operations that must wait in it.
func same(t *testing.T, r pend.Room, l []op.Op) {
	t.Helper()
	if got := r.All(); !slices.Equal(got, l) {
		t.Fatalf("All: %s, not %s", texts(got), texts(l))
	}
	if r.Len() != len(l) {
		t.Fatalf("Len: %d, not %d, of %s", r.Len(), len(l), texts(l))
	}
	if r.Top() != top(l) {
		t.Fatalf("Top: %d, not %d, of %s", r.Top(), top(l), texts(l))
	}
}

// add is the room behind an operation that may come in.
func add(t *testing.T, r pend.Room, o op.Op) pend.Room {
	t.Helper()
	next, e := r.Add(o)
	if e != api.OK {
		t.Fatalf("Add(%+v): %v", o, e)
	}
	return next
}

// room is the room of some operations.
func room(t *testing.T, l []op.Op) pend.Room {
	t.Helper()
	var r pend.Room
	for _, o := range l {
		r = add(t, r, o)
	}
	return r
}

// refused asks for an operation that a room must refuse.
func refused(t *testing.T, r pend.Room, l []op.Op, o op.Op, want api.Errno) {
	t.Helper()
	next, e := r.Add(o)
	if e != want {
		t.Fatalf("Add(%+v): %v, not %v", o, e, want)
	}
	same(t, next, l)
	same(t, r, l)
}

// state is the state behind operations, one after the other.
func state(t *testing.T, l []op.Op) core.State {
	t.Helper()
	var s core.State
	for _, o := range l {
		next, _, e := s.Apply(o)
		if e != api.OK {
			t.Fatalf("Apply(%v): %v", o, e)
		}
		s = next
	}
	return s
}

// full is a row of as many operations as may wait, none of which waits for another.
func full() []op.Op {
	var l []op.Op
	for i := range api.MaxPending {
		l = append(l, insertOf(mk(int64(i+20), i+1), mk(int64(i+1), i+1), 'a'))
	}
	return l
}

func TestP71AtFirst(t *testing.T) {
	var r pend.Room
	same(t, r, nil)
	for _, s := range []core.State{{}, state(t, ops(t, "+1.1 - 61, +2.1 1.1 62, -1.1"))} {
		next, o, ok := r.Next(s)
		if o != (op.Op{}) || ok {
			t.Errorf("Next of an empty room: %+v, %v", o, ok)
		}
		same(t, next, nil)
	}
	same(t, r, nil)
}

func TestP71Example(t *testing.T) {
	l := ops(t, "+2.1 1.1 62")
	r := room(t, l)
	same(t, r, l)
	next, o, ok := r.Next(core.State{})
	if o != (op.Op{}) || ok {
		t.Fatalf("by a state without elements: %+v, %v", o, ok)
	}
	same(t, next, l)
	next, o, ok = r.Next(state(t, ops(t, "+1.1 - 61")))
	if o != l[0] || !ok {
		t.Fatalf("by a state that has the Anchor: %+v, %v", o, ok)
	}
	same(t, next, nil)
}

// From an empty room on up to as many as may wait, and one more.
func TestP71AddInOrder(t *testing.T) {
	l := full()
	slices.Reverse(l)
	var r pend.Room
	for i, o := range l {
		same(t, r, l[:i])
		r = add(t, r, o)
	}
	if r.Len() != 16 {
		t.Fatalf("%d wait", r.Len())
	}
	same(t, r, l)
	refused(t, r, l, deleteOf(mk(99, 9)), api.ErrFull)
}

// The numbers that are at their ends come in.
func TestP71AddTheEnds(t *testing.T) {
	l := ops(t, "+1.1 - 20, +1048576.1000 1048575.1000 10ffff, +1048576.999 - d7ff, +1048576.1 1.1 e000, -1048576.1000, -1.1")
	same(t, room(t, l), l)
}

// Each error of a room that has place yet, and where several apply the first one.
func TestP71AddErrors(t *testing.T) {
	l := ops(t, "+3.1 2.1 63, -2.1, +5.2 - 64, -5.2, -7.3")
	r := room(t, l)
	for _, c := range []struct {
		name string
		o    op.Op
		want api.Errno
	}{
		{"none of the Kinds", op.Op{Kind: 2, ID: mk(9, 1), Char: 'a'}, api.ErrForm},
		{"none of the Kinds, else one that waits", op.Op{Kind: -1, ID: mk(3, 1), Anchor: mk(2, 1), Char: 'c'}, api.ErrForm},
		{"none of the Kinds, far off", op.Op{Kind: math.MinInt, ID: mk(math.MinInt64, math.MaxInt)}, api.ErrForm},
		{"a Delete with an Anchor, of an ID that waits", op.Op{Kind: op.Delete, ID: mk(2, 1), Anchor: mk(1, 1)}, api.ErrForm},
		{"a Delete with the Anchor and Char of an Insert that waits", op.Op{Kind: op.Delete, ID: mk(3, 1), Anchor: mk(2, 1), Char: 'c'}, api.ErrForm},
		{"a Delete with a Char", op.Op{Kind: op.Delete, ID: mk(9, 1), Char: 'a'}, api.ErrForm},
		{"the zero one", op.Op{}, api.ErrRange},
		{"a Delete of None", deleteOf(id.ID{}), api.ErrRange},
		{"a Delete of a Counter too great", deleteOf(mk(1048577, 1)), api.ErrRange},
		{"a Delete of a Site too great", deleteOf(mk(2, 1001)), api.ErrRange},
		{"an Insert of a Counter below 0", insertOf(mk(-1, 1), id.ID{}, 'a'), api.ErrRange},
		{"of an ID that waits, behind an id that may not be", insertOf(mk(3, 1), mk(2, 0), 'c'), api.ErrRange},
		{"behind itself", insertOf(mk(9, 1), mk(9, 1), 'a'), api.ErrOrder},
		{"of an ID that waits, behind a greater Counter", insertOf(mk(3, 1), mk(4, 1), 'c'), api.ErrOrder},
		{"of an ID that waits, with no Char", insertOf(mk(3, 1), mk(2, 1), 31), api.ErrForm},
		{"with no Char", insertOf(mk(9, 1), mk(2, 1), 0xdfff), api.ErrForm},

		{"the first that waits", insertOf(mk(3, 1), mk(2, 1), 'c'), api.ErrTwice},
		{"an Insert without an Anchor that waits", insertOf(mk(5, 2), id.ID{}, 'd'), api.ErrTwice},
		{"a Delete that waits", deleteOf(mk(2, 1)), api.ErrTwice},
		{"a Delete of an ID whose Insert waits, too", deleteOf(mk(5, 2)), api.ErrTwice},
		{"the last that waits", deleteOf(mk(7, 3)), api.ErrTwice},

		{"with another Char", insertOf(mk(3, 1), mk(2, 1), 'd'), api.ErrClash},
		{"with another Anchor", insertOf(mk(3, 1), mk(2, 2), 'c'), api.ErrClash},
		{"without the Anchor", insertOf(mk(3, 1), id.ID{}, 'c'), api.ErrClash},
		{"with an Anchor more", insertOf(mk(5, 2), mk(4, 1), 'd'), api.ErrClash},
		{"all else unlike", insertOf(mk(5, 2), mk(4, 1), 'x'), api.ErrClash},
	} {
		t.Run(c.name, func(t *testing.T) { refused(t, r, l, c.o, c.want) })
	}
}

// What is neither twice there nor clashes, though it is near to something that waits.
func TestP71AddNearOnes(t *testing.T) {
	l := ops(t, "+3.1 2.1 63, -2.1, +5.2 - 64, -7.3")
	r := room(t, l)
	for _, s := range []string{
		"-3.1",        // the ID of an Insert that waits
		"-5.2",        // of one without an Anchor
		"+2.1 1.1 62", // the ID of a Delete that waits
		"+7.3 - 62",   // of that, without an Anchor
		"+3.2 2.1 63", // another Site
		"+4.1 2.1 63", // another Counter
		"+6.1 5.2 64", // behind one that waits
		"-2.3",        // another Site
		"-3.7",        // the numbers in the other order
		"+5.3 - 64",   // another Site, without an Anchor
		"+1.1 - 20",   // what waits for nothing comes in as well
	} {
		o := ops(t, s)[0]
		same(t, add(t, r, o), append(slices.Clone(l), o))
		same(t, r, l)
	}
}

// The errors of a full room: all others come ahead of ErrFull.
func TestP71AddErrorsFull(t *testing.T) {
	l := full()
	l[15] = deleteOf(mk(35, 16))
	fifteen := room(t, l[:15])
	r := add(t, fifteen, l[15])
	for _, o := range []op.Op{deleteOf(mk(20, 1)), deleteOf(mk(99, 9)), insertOf(mk(35, 16), id.ID{}, 'a'), insertOf(mk(99, 9), mk(1, 1), 'a'), insertOf(mk(1, 1), id.ID{}, 'a')} {
		refused(t, r, l, o, api.ErrFull)
		same(t, add(t, fifteen, o), append(slices.Clone(l[:15]), o))
	}
	for _, o := range l {
		refused(t, r, l, o, api.ErrTwice)
	}
	for _, o := range l[:15] {
		o.Char++
		refused(t, r, l, o, api.ErrClash)
		refused(t, fifteen, l[:15], o, api.ErrClash)
	}
	refused(t, r, l, op.Op{Kind: 2}, api.ErrForm)
	refused(t, r, l, op.Op{}, api.ErrRange)
	refused(t, r, l, insertOf(mk(20, 1), mk(20, 1), 'a'), api.ErrOrder)
	refused(t, r, l, insertOf(mk(20, 1), mk(1, 1), 0), api.ErrForm)
	same(t, fifteen, l[:15])
}

// A full room of which one was let in has place for one, be it that one.
func TestP71AddBehindNext(t *testing.T) {
	l := full()
	r := room(t, l)
	for k := range l {
		anchor := l[k].Anchor
		s := state(t, []op.Op{insertOf(anchor, id.ID{}, 'z')})
		next, o, ok := r.Next(s)
		if o != l[k] || !ok {
			t.Fatalf("the %d-th: %+v, %v", k, o, ok)
		}
		rest := slices.Delete(slices.Clone(l), k, k+1)
		same(t, next, rest)
		for _, x := range []op.Op{o, deleteOf(o.ID), insertOf(o.ID, id.ID{}, 'b')} {
			more := append(slices.Clone(rest), x)
			again := add(t, next, x)
			same(t, again, more)
			refused(t, again, more, deleteOf(mk(99, 9)), api.ErrFull)
		}
		same(t, next, rest)
		same(t, r, l)
	}
}

// Which of a room is let in by a state, by texts; without any, none can be.
func TestP71Next(t *testing.T) {
	const some = "+1.1 - 61, +2.1 1.1 62, +2.2 1.1 63, -2.1"
	for _, c := range []struct{ name, state, room, want string }{
		{"an Anchor that isn't there", "", "+2.1 1.1 62", ""},
		{"a Delete of what isn't there", "", "-2.1", ""},
		{"several that can't be", some, "+3.1 2.3 61, -3.1, +9.9 8.8 61, -1.2, -9.9", ""},
		{"what one waits for waits, too", "", "+3.1 2.1 63, -2.1, +2.1 1.1 62", ""},
		{"an Anchor of another Site", some, "+9.1 1.2 61", ""},
		{"an Anchor of another Counter", some, "+9.1 3.1 61", ""},
		{"a Delete of another Site", some, "-1.2", ""},
		{"as many as may wait, that can't be", some, "-1.2, -1.3, -1.4, -1.5, -1.6, -1.7, -1.8, -1.9, -3.2, -3.3, -3.4, -3.5, -3.6, -3.7, -3.8, -3.9", ""},

		{"the only one", some, "+9.1 2.2 61", "+9.1 2.2 61"},
		{"one without an Anchor, by no elements", "", "+9.1 - 61", "+9.1 - 61"},
		{"one without an Anchor, behind what can't be", "", "+9.1 8.1 61, -9.1, +8.1 - 61", "+8.1 - 61"},
		{"a Delete of one alive", some, "-9.1, -2.2", "-2.2"},
		{"behind a dead one", some, "-9.1, +3.1 2.1 61", "+3.1 2.1 61"},
		{"the first of several", some, "+3.1 2.1 61, +4.1 2.2 62, -1.1", "+3.1 2.1 61"},
		{"the first of several, the greatest", some, "-2.2, +2.9 1.1 62, -1.1", "-2.2"},
		{"the first of several, the least", some, "-1.1, -2.2, +9.1 2.2 62", "-1.1"},
		{"the first of several, amidst", some, "-9.1, -9.2, -1.1, -9.3, -2.2, -9.4", "-1.1"},
		{"the last", some, "-9.1, -9.2, +9.3 8.2 61, -1.1", "-1.1"},
		{"the one that others wait for", "+1.1 - 61", "+3.1 2.1 63, -2.1, +2.1 1.1 62", "+2.1 1.1 62"},
		{"as many as may wait, the last", some, "-1.2, -1.3, -1.4, -1.5, -1.6, -1.7, -1.8, -1.9, -3.2, -3.3, -3.4, -3.5, -3.6, -3.7, -3.8, -1.1", "-1.1"},
		{"as many as may wait, the first", some, "-1.1, -1.3, -1.4, -1.5, -1.6, -1.7, -1.8, -1.9, -3.2, -3.3, -3.4, -3.5, -3.6, -3.7, -3.8, -2.2", "-1.1"},

		{"refused, ErrTwice, of an Insert", some, "-9.1, +2.2 1.1 63, -1.1", "+2.2 1.1 63"},
		{"refused, ErrTwice, of an Insert of a dead one", some, "-9.1, +2.1 1.1 62, -1.1", "+2.1 1.1 62"},
		{"refused, ErrTwice, of a Delete", some, "-9.1, -2.1, -1.1", "-2.1"},
		{"refused, ErrClash, by the Char", some, "-9.1, +2.2 1.1 64, -1.1", "+2.2 1.1 64"},
		{"refused, ErrClash, by an Anchor that isn't there", some, "-9.1, +2.2 1.9 63, -1.1", "+2.2 1.9 63"},
	} {
		t.Run(c.name, func(t *testing.T) {
			s, l := state(t, ops(t, c.state)), ops(t, c.room)
			letIn(t, s, l, ops(t, c.want))
		})
	}
}

// letIn asks a room of some operations for the one that a state lets in, or none.
func letIn(t *testing.T, s core.State, l, want []op.Op) {
	t.Helper()
	r := room(t, l)
	was := s
	next, o, ok := r.Next(s)
	if len(want) == 0 {
		if o != (op.Op{}) || ok {
			t.Fatalf("let in: %+v, %v", o, ok)
		}
		same(t, next, l)
	} else {
		if o != want[0] || !ok {
			t.Fatalf("let in: %+v, %v, not %+v", o, ok, want[0])
		}
		at := slices.Index(l, o)
		same(t, next, slices.Delete(slices.Clone(l), at, at+1))
	}
	same(t, r, l)
	if s != was {
		t.Fatal("the state isn't as it was")
	}
}

// One after the other, by one state: they leave in the order in which they came.
func TestP71NextAgainAndAgain(t *testing.T) {
	s := state(t, ops(t, "+1.1 - 61, +2.1 1.1 62"))
	l := ops(t, "-9.1, -2.1, +3.1 2.1 61, +9.2 8.1 61, -1.1, +2.1 1.1 62, +4.4 - 62, -4.4")
	r := room(t, l)
	var left []op.Op
	for {
		next, o, ok := r.Next(s)
		if !ok {
			break
		}
		left = append(left, o)
		r = next
	}
	if got := texts(left); got != "-2.1, +3.1 2.1 61, -1.1, +2.1 1.1 62, +4.4 - 62" {
		t.Errorf("they left so: %s", got)
	}
	same(t, r, ops(t, "-9.1, +9.2 8.1 61, -4.4"))
}

// A state of as many elements as may be refuses by ErrFull, which lets in, too; what
// isn't there comes ahead of that.
func TestP71NextByAFullState(t *testing.T) {
	var l []op.Op
	for i := range api.MaxElems {
		l = append(l, insertOf(mk(int64(i+1), 1), id.ID{}, 'a'))
	}
	s := state(t, l)
	if _, _, e := s.Apply(insertOf(mk(5000, 1), id.ID{}, 'a')); e != api.ErrFull {
		t.Fatalf("the state isn't full: %v", e)
	}
	letIn(t, s, ops(t, "+6000.1 5000.1 61, -6000.1, +5000.1 4096.1 61, -1.1"), ops(t, "+5000.1 4096.1 61"))
	letIn(t, s, ops(t, "+6000.1 5000.1 61, +5000.1 - 61"), ops(t, "+5000.1 - 61"))
	letIn(t, s, ops(t, "+6000.1 5000.1 61, -1.1, +5000.1 - 61"), ops(t, "-1.1"))
	letIn(t, s, ops(t, "+6000.1 5000.1 61, -5000.1"), nil)
}

// Rows and maps of a State can be put together as no operations would have them:
// what Next answers then isn't promised, but that it answers.
func TestP71NextByAnyState(t *testing.T) {
	s := state(t, ops(t, "+1.1 - 61, +2.1 1.1 62, -2.1"))
	var odd ptree.Tree
	for i := range 100 {
		odd, _ = odd.Insert(0, ptree.Elem{ID: mk(int64(-i), i%3), Char: rune(-i)})
	}
	index, _ := s.Index.Put(mk(9, 9), pmap.Entry{Anchor: mk(-1, 5000), Char: -1})
	l := ops(t, "-9.9, +10.1 9.9 61, -1.1, +2.1 1.1 62, +3.1 2.1 63, +4.1 - 64")
	r := room(t, l)
	for _, x := range []core.State{{Elems: s.Elems}, {Index: s.Index}, {Elems: odd}, {Elems: odd, Index: index}, {Elems: s.Elems, Index: index}} {
		next, left := r, 0
		for ok := true; ok; left++ {
			next, _, ok = next.Next(x)
		}
		if next.Len() != len(l)-left+1 {
			t.Errorf("%d left, and %d wait yet", left-1, next.Len())
		}
		same(t, r, l)
	}
}

func TestP71Top(t *testing.T) {
	for _, c := range []struct {
		room string
		want int64
	}{
		{"", 0},
		{"+1.1 - 61", 1},
		{"-1.1", 1},
		{"+3.1 2.1 63", 3},
		{"+3.900 2.1000 10ffff", 3},
		{"+9.1 2.1 63, +4.1 2.1 63, -5.1", 9},
		{"+4.1 2.1 63, +9.1 2.1 63, -5.1", 9},
		{"+4.1 2.1 63, -5.1, +9.1 2.1 63", 9},
		{"-9.1, +4.1 2.1 63", 9},
		{"+4.1 2.1 63, -10.1, +9.1 2.1 63", 10},
		{"-1048576.1", 1048576},
		{"+1048576.1 - 61, -1048575.1", 1048576},
	} {
		l := ops(t, c.room)
		if got := room(t, l).Top(); got != c.want {
			t.Errorf("Top of %q: %d, not %d", c.room, got, c.want)
		}
	}
}

// The Top falls, when the greatest one is let in.
func TestP71TopBehindNext(t *testing.T) {
	r := room(t, ops(t, "-5.1, +9.1 - 61, -8.1"))
	next, _, ok := r.Next(core.State{})
	if !ok || next.Top() != 8 || r.Top() != 9 {
		t.Errorf("%v: Top %d, of the one ahead %d", ok, next.Top(), r.Top())
	}
	next, _, ok = room(t, ops(t, "+9.1 - 61")).Next(core.State{})
	if !ok || next.Top() != 0 {
		t.Errorf("%v: Top %d", ok, next.Top())
	}
}

// What is handed out is new memory: whoever writes there, or behind its end, changes
// no room, and no other answer.
func TestP72AllIsNewMemory(t *testing.T) {
	l := full()
	for n := range len(l) + 1 {
		r := room(t, l[:n])
		a, b := r.All(), r.All()
		for i := range a {
			a[i] = deleteOf(mk(99, i+1))
		}
		a = append(a, deleteOf(mk(99, 99)))
		_ = append(b, deleteOf(mk(99, 98)))
		same(t, r, l[:n])
		if !slices.Equal(b, l[:n]) {
			t.Fatalf("another answer: %s", texts(b))
		}
		next, o, ok := r.Next(state(t, []op.Op{insertOf(mk(1, 1), id.ID{}, 'z')}))
		if ok != (n > 0) || ok && o != l[0] {
			t.Fatalf("Next of %d: %+v, %v", n, o, ok)
		}
		same(t, next, l[min(n, 1):n])
		if len(a) != n+1 || a[n] != deleteOf(mk(99, 99)) || !slices.Equal(b, l[:n]) {
			t.Fatalf("answers of ahead: %s and %s", texts(a), texts(b))
		}
	}
}

// Of each number of operations: two rooms are made of one by an Add, and two more of
// each of these. None may be written over.
func TestP72AddTwiceToOne(t *testing.T) {
	l := full()
	for n := range len(l) {
		r := room(t, l[:n])
		told := r.All()
		x, y := deleteOf(mk(50, 1)), deleteOf(mk(50, 2))
		a := add(t, r, x)
		b := add(t, r, y)
		same(t, a, append(slices.Clone(l[:n]), x))
		same(t, b, append(slices.Clone(l[:n]), y))
		if n+1 < len(l) {
			for _, z := range []op.Op{deleteOf(mk(51, 1)), deleteOf(mk(51, 2))} {
				same(t, add(t, a, z), append(slices.Clone(l[:n]), x, z))
				same(t, add(t, b, z), append(slices.Clone(l[:n]), y, z))
			}
		}
		same(t, a, append(slices.Clone(l[:n]), x))
		same(t, b, append(slices.Clone(l[:n]), y))
		same(t, r, l[:n])
		if !slices.Equal(told, l[:n]) {
			t.Fatalf("told ahead: %s", texts(told))
		}
	}
}

// Of each number of operations: each one is taken out of the same room, and two
// others come in behind the rest. None may be written over.
func TestP72NextOfOne(t *testing.T) {
	l := full()
	for n := 1; n <= len(l); n++ {
		r := room(t, l[:n])
		told := r.All()
		for k := range n {
			s := state(t, []op.Op{insertOf(l[k].Anchor, id.ID{}, 'z')})
			next, o, ok := r.Next(s)
			if o != l[k] || !ok {
				t.Fatalf("the %d-th of %d: %+v, %v", k, n, o, ok)
			}
			rest := slices.Delete(slices.Clone(l[:n]), k, k+1)
			same(t, next, rest)
			x, y := deleteOf(mk(50, 1)), deleteOf(mk(50, 2))
			a := add(t, next, x)
			b := add(t, next, y)
			same(t, a, append(slices.Clone(rest), x))
			same(t, b, append(slices.Clone(rest), y))
			same(t, next, rest)
			same(t, r, l[:n])
		}
		if !slices.Equal(told, l[:n]) {
			t.Fatalf("told ahead: %s", texts(told))
		}
	}
}

// anyOp is an operation of few ids, so that some meet; now and then one that may
// not be.
func anyOp(random *rand.Rand) op.Op {
	a := mk(int64(random.Intn(6)+1), random.Intn(3)+1)
	switch random.Intn(20) {
	case 0:
		a.Site = 1001
	case 1:
		return op.Op{Kind: op.Kind(random.Intn(3)), ID: a, Anchor: a, Char: 'a'}
	case 2, 3, 4, 5, 6, 7:
		return deleteOf(a)
	}
	anchor := mk(random.Int63n(a.Counter+1), random.Intn(3)+1)
	if anchor.Counter == 0 {
		anchor = id.ID{}
	}
	return insertOf(a, anchor, 'a'+rune(random.Intn(2)))
}

// wanted is the error of an operation, into a room of others.
func wanted(l []op.Op, o op.Op) api.Errno {
	if e := o.Check(); e != api.OK {
		return e
	}
	twice, clash := false, false
	for _, w := range l {
		alike := w.Kind == o.Kind && w.ID == o.ID && w.Anchor == o.Anchor && w.Char == o.Char
		twice = twice || alike
		clash = clash || !alike && w.Kind == op.Insert && o.Kind == op.Insert && w.ID == o.ID
	}
	switch {
	case twice:
		return api.ErrTwice
	case clash:
		return api.ErrClash
	case len(l) == 16:
		return api.ErrFull
	}
	return api.OK
}

// enters says whether an operation can be let in by a state of some Inserts. It asks
// for ids, not for what an Apply answers.
func enters(there map[id.ID]bool, o op.Op) bool {
	if o.Kind == op.Insert && (o.Anchor == id.ID{} || there[o.Anchor]) {
		return true
	}
	return there[o.ID]
}

// world is rooms, and what must wait in each; states, and the ids that each has; and
// what rooms told.
type world struct {
	t      *testing.T
	random *rand.Rand
	rooms  []pend.Room
	lists  [][]op.Op
	told   [][]op.Op
	states []core.State
	there  []map[id.ID]bool
	counts map[api.Errno]int
	let    int
}

// grow makes states of few elements.
func (w *world) grow() {
	for range 30 {
		var s core.State
		there := map[id.ID]bool{}
		for range w.random.Intn(8) {
			o := anyOp(w.random)
			next, _, e := s.Apply(o)
			if e != api.OK {
				continue
			}
			s = next
			there[o.ID] = true
		}
		w.states, w.there = append(w.states, s), append(w.there, there)
	}
}

// keep has a room stay, with what must wait in it, and what it tells.
func (w *world) keep(r pend.Room, l []op.Op) {
	same(w.t, r, l)
	w.rooms, w.lists, w.told = append(w.rooms, r), append(w.lists, l), append(w.told, r.All())
}

// add has any operation come into one of the rooms.
func (w *world) add(k int) {
	o, l := anyOp(w.random), w.lists[k]
	want := wanted(l, o)
	w.counts[want]++
	if want != api.OK {
		refused(w.t, w.rooms[k], l, o, want)
		return
	}
	w.keep(add(w.t, w.rooms[k], o), append(slices.Clone(l), o))
}

// next asks one of the rooms for what one of the states lets in.
func (w *world) next(k int) {
	i, l := w.random.Intn(len(w.states)), w.lists[k]
	at := slices.IndexFunc(l, func(o op.Op) bool { return enters(w.there[i], o) })
	next, o, ok := w.rooms[k].Next(w.states[i])
	if at < 0 {
		if o != (op.Op{}) || ok {
			w.t.Fatalf("let in: %+v, %v", o, ok)
		}
		same(w.t, next, l)
		return
	}
	if o != l[at] || !ok {
		w.t.Fatalf("let in: %+v, %v, not %+v", o, ok, l[at])
	}
	w.let++
	w.keep(next, slices.Delete(slices.Clone(l), at, at+1))
}

// Whatever is made of rooms, and of which, in whatever order: each of them, and what
// it told, stays as it was.
func TestP72AnyRooms(t *testing.T) {
	for seed := range int64(20) {
		w := &world{t: t, random: rand.New(rand.NewSource(seed)), counts: map[api.Errno]int{}}
		w.grow()
		w.keep(pend.Room{}, nil)
		for range 1500 {
			// Of the last ones more than of others, so that some become full.
			k := len(w.rooms) - 1
			if w.random.Intn(4) == 0 {
				k = w.random.Intn(len(w.rooms))
			}
			if w.random.Intn(5) == 0 {
				w.next(k)
			} else {
				w.add(k)
			}
		}
		for _, e := range []api.Errno{api.OK, api.ErrForm, api.ErrRange, api.ErrOrder, api.ErrTwice, api.ErrClash, api.ErrFull} {
			if w.counts[e] == 0 {
				t.Errorf("seed %d: never %v", seed, e)
			}
		}
		if w.let < 20 {
			t.Errorf("seed %d: %d were let in", seed, w.let)
		}
		for k, r := range w.rooms {
			same(t, r, w.lists[k])
			if !slices.Equal(w.told[k], w.lists[k]) {
				t.Fatalf("told ahead: %s, not %s", texts(w.told[k]), texts(w.lists[k]))
			}
		}
	}
}
