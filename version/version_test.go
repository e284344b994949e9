package version_test

import (
	"math"
	"math/rand"
	"slices"
	"strconv"
	"testing"

	"selvedge/api"
	"selvedge/id"
	"selvedge/op"
	"selvedge/version"
)

func TestP81Tables(t *testing.T) {
	for _, c := range []struct{ name, ahead, o, story, waiting, text string }{
		{"at first", "", "+1.1 - 61", "1 +0 1.1 a", "", "a"},
		{"behind another one", "+1.1 - 61", "+2.1 1.1 62", "2 +1 2.1 b", "", "ab"},
		{"ahead of another one", "+1.1 - 61", "+1.2 - 62", "2 +0 1.2 b", "", "ba"},
		{"between others", "+1.1 - 61, +2.1 1.1 62", "+2.2 1.1 63", "3 +1 2.2 c", "", "acb"},
		{"the ends of all numbers", "", "+1048576.1000 - 10ffff", "1 +0 1048576.1000 \U0010ffff", "", "\U0010ffff"},
		{"out, of one", "+1.1 - 61", "-1.1", "2 -0 1.1 a", "", ""},
		{"out of the midst", "+1.1 - 61, +2.1 1.1 62, +3.1 2.1 63", "-2.1", "4 -1 2.1 b", "", "ac"},
		{"out of the end", "+1.1 - 61, +2.1 1.1 62, +3.1 2.1 63", "-3.1", "4 -2 3.1 c", "", "ab"},

		{"in, behind dead ones", "+1.1 - 61, +2.1 1.1 62, -1.1, -2.1", "+3.1 2.1 63", "5 +0 3.1 c", "", "c"},
		{"in, behind a dead one and one alive", "+1.1 - 61, +2.1 1.1 62, -1.1", "+3.1 2.1 63", "4 +1 3.1 c", "", "bc"},
		{"in, ahead of dead ones", "+1.1 - 61, +2.1 1.1 62, -2.1", "+3.1 1.1 63", "4 +1 3.1 c", "", "ac"},
		{"out, behind dead ones", "+1.1 - 61, +2.1 1.1 62, +3.1 2.1 63, -1.1, -2.1", "-3.1", "6 -0 3.1 c", "", ""},
		{"out, between dead ones", "+1.1 - 61, +2.1 1.1 62, +3.1 2.1 63, +4.1 3.1 64, -2.1, -4.1", "-3.1", "7 -1 3.1 c", "", "a"},

		{"waits, behind what isn't there", "", "+2.1 1.1 62", "", "+2.1 1.1 62", ""},
		{"waits, behind another Site", "+1.2 - 61", "+2.1 1.1 62", "", "+2.1 1.1 62", "a"},
		{"waits, a Delete of what isn't there", "+1.1 - 61", "-2.1", "", "-2.1", "a"},
		{"waits, behind what waits", "+2.1 1.1 62", "+3.1 2.1 63", "", "+2.1 1.1 62, +3.1 2.1 63", ""},
		{"waits, a Delete of what waits", "+2.1 1.1 62", "-2.1", "", "+2.1 1.1 62, -2.1", ""},
		{"waits, an Insert of what a Delete waits for", "-2.1", "+2.1 1.1 62", "", "-2.1, +2.1 1.1 62", ""},
		{"in, while others wait", "+3.1 2.1 63, -9.9", "+1.1 - 61", "1 +0 1.1 a", "+3.1 2.1 63, -9.9", "a"},
		{"out, while others wait", "+1.1 - 61, +3.1 2.1 63, -9.9", "-1.1", "2 -0 1.1 a", "+3.1 2.1 63, -9.9", ""},

		{"lets in one", "+2.1 1.1 62", "+1.1 - 61", "1 +0 1.1 a, 2 +1 2.1 b", "", "ab"},
		{"lets in a Delete of itself", "-1.1", "+1.1 - 61", "1 +0 1.1 a, 2 -0 1.1 a", "", ""},
		{"lets in a Delete, and then an Insert behind the dead one", "-1.1, +2.1 1.1 62", "+1.1 - 61", "1 +0 1.1 a, 2 -0 1.1 a, 3 +0 2.1 b", "", "b"},
		{"lets in the first of several first", "+2.1 1.1 62, +2.2 1.1 63, +2.3 1.1 64", "+1.1 - 61", "1 +0 1.1 a, 2 +1 2.1 b, 3 +1 2.2 c, 4 +1 2.3 d", "", "adcb"},
		{"the greatest of several came first", "+2.3 1.1 64, +2.2 1.1 63, +2.1 1.1 62", "+1.1 - 61", "1 +0 1.1 a, 2 +1 2.3 d, 3 +2 2.2 c, 4 +3 2.1 b", "", "adcb"},
		{"each lets in the next one", "+2.1 1.1 62, +3.1 2.1 63, +4.1 3.1 64", "+1.1 - 61", "1 +0 1.1 a, 2 +1 2.1 b, 3 +2 3.1 c, 4 +3 4.1 d", "", "abcd"},
		{"each lets in the one that came ahead of it", "+4.1 3.1 64, +3.1 2.1 63, +2.1 1.1 62", "+1.1 - 61", "1 +0 1.1 a, 2 +1 2.1 b, 3 +2 3.1 c, 4 +3 4.1 d", "", "abcd"},
		{"what is let in comes ahead of others that could be", "+3.1 2.1 63, +2.1 1.1 62, +2.2 1.1 64", "+1.1 - 61", "1 +0 1.1 a, 2 +1 2.1 b, 3 +2 3.1 c, 4 +1 2.2 d", "", "adbc"},
		{"Deletes of what waits", "-3.1, +3.1 2.1 63, -2.1, +2.1 1.1 62", "+1.1 - 61", "1 +0 1.1 a, 2 +1 2.1 b, 3 +2 3.1 c, 4 -2 3.1 c, 5 -1 2.1 b", "", "a"},
		{"others wait on, in order", "-9.9, +2.1 1.1 62, +8.1 7.1 63, -1.1, +8.2 7.2 64", "+1.1 - 61", "1 +0 1.1 a, 2 +1 2.1 b, 3 -0 1.1 a", "-9.9, +8.1 7.1 63, +8.2 7.2 64", "b"},

		{"gone, of another Anchor", "+1.1 - 61, +3.1 2.1 63", "+3.1 1.1 63", "2 +1 3.1 c", "", "ac"},
		{"gone, without an Anchor", "+3.1 2.1 63", "+3.1 - 63", "1 +0 3.1 c", "", "c"},
		{"gone, and what follows that ID is let in", "+3.1 2.1 63, +4.1 3.1 64, -3.1", "+3.1 - 65", "1 +0 3.1 e, 2 +1 4.1 d, 3 -0 3.1 e", "", "d"},
		{"gone, behind what the same one lets in", "+4.1 3.1 64, +3.1 2.1 63, -3.1, -9.9", "+3.1 - 65", "1 +0 3.1 e, 2 +1 4.1 d, 3 -0 3.1 e", "-9.9", "d"},
		{"gone, alone of those that wait", "-9.9, +3.1 2.1 63, +5.1 2.1 64", "+3.1 - 63", "1 +0 3.1 c", "-9.9, +5.1 2.1 64", "c"},
	} {
		t.Run(c.name, func(t *testing.T) {
			p := behind(t, ops(t, c.ahead))
			next, l, e := p.remote(t, ops(t, c.o)[0])
			if e != api.OK || story(l) != c.story {
				t.Errorf("%v, %s, not %s", e, story(l), c.story)
			}
			if got := texts(next.v.Waiting()); got != c.waiting || next.v.Text() != c.text {
				t.Errorf("%s wait, %q, not %s, %q", got, next.v.Text(), c.waiting, c.text)
			}
			if next.v.Seq() != p.v.Seq()+int64(len(l)) {
				t.Errorf("Seq %d, behind %d and %d changes", next.v.Seq(), p.v.Seq(), len(l))
			}
		})
	}
}

// refused asks for an operation that a version must refuse.
func refused(t *testing.T, p pair, o op.Op, want api.Errno) {
	t.Helper()
	next, l, e := p.remote(t, o)
	if e != want || len(l) != 0 {
		t.Fatalf("Remote(%+v): %s, %v, not %v", o, story(l), e, want)
	}
	same(t, next.v, p.m)
}

// Each error, and where several apply the first one.
func TestP81Errors(t *testing.T) {
	p := behind(t, ops(t, "+1.1 - 61, +2.1 1.1 62, +3.1 2.1 63, -2.1, +5.1 4.1 64, -6.1, +7.2 4.2 65, -7.2"))
	for _, c := range []struct {
		name string
		o    op.Op
		want api.Errno
	}{
		{"none of the Kinds", op.Op{Kind: 2, ID: mk(9, 1), Char: 'a'}, api.ErrForm},
		{"none of the Kinds, there", op.Op{Kind: -1, ID: mk(1, 1), Char: 'a'}, api.ErrForm},
		{"none of the Kinds, far off", op.Op{Kind: math.MinInt, ID: mk(math.MinInt64, math.MaxInt)}, api.ErrForm},
		{"a Delete with an Anchor", op.Op{Kind: op.Delete, ID: mk(3, 1), Anchor: mk(2, 1)}, api.ErrForm},
		{"a Delete with a Char, of a dead one", op.Op{Kind: op.Delete, ID: mk(2, 1), Char: 'b'}, api.ErrForm},
		{"a Delete with a Char, of what isn't there", op.Op{Kind: op.Delete, ID: mk(9, 1), Char: 'b'}, api.ErrForm},
		{"a Delete with a Char, that waits else", op.Op{Kind: op.Delete, ID: mk(6, 1), Char: 'b'}, api.ErrForm},
		{"the zero one", op.Op{}, api.ErrRange},
		{"a Delete of None", deleteOf(id.ID{}), api.ErrRange},
		{"a Site too great", insertOf(mk(9, 1001), id.ID{}, 'a'), api.ErrRange},
		{"a Counter too great", insertOf(mk(1048577, 1), id.ID{}, 'a'), api.ErrRange},
		{"behind an id that may not be, there", insertOf(mk(3, 1), mk(2, 0), 'c'), api.ErrRange},
		{"behind an id that may not be, waiting", insertOf(mk(5, 1), mk(4, -1), 'd'), api.ErrRange},
		{"behind itself, there", insertOf(mk(2, 1), mk(2, 1), 'b'), api.ErrOrder},
		{"behind a greater Counter, waiting", insertOf(mk(5, 1), mk(6, 1), 'd'), api.ErrOrder},
		{"behind what isn't there, with no Char", insertOf(mk(9, 1), mk(8, 1), 31), api.ErrForm},
		{"waiting, with no Char", insertOf(mk(5, 1), mk(4, 1), 0xd800), api.ErrForm},

		{"there", insertOf(mk(1, 1), id.ID{}, 'a'), api.ErrTwice},
		{"there, dead", insertOf(mk(2, 1), mk(1, 1), 'b'), api.ErrTwice},
		{"there, behind a dead one", insertOf(mk(3, 1), mk(2, 1), 'c'), api.ErrTwice},
		{"a Delete of a dead one", deleteOf(mk(2, 1)), api.ErrTwice},
		{"there with another Char", insertOf(mk(3, 1), mk(2, 1), 'd'), api.ErrClash},
		{"there with another Anchor", insertOf(mk(3, 1), mk(1, 1), 'c'), api.ErrClash},
		{"there with an Anchor that isn't there", insertOf(mk(3, 1), mk(2, 9), 'c'), api.ErrClash},
		{"there, dead, with another Char", insertOf(mk(2, 1), mk(1, 1), 'a'), api.ErrClash},

		{"waiting", insertOf(mk(5, 1), mk(4, 1), 'd'), api.ErrTwice},
		{"waiting, a Delete", deleteOf(mk(6, 1)), api.ErrTwice},
		{"waiting, with its Delete", insertOf(mk(7, 2), mk(4, 2), 'e'), api.ErrTwice},
		{"waiting, a Delete of what waits", deleteOf(mk(7, 2)), api.ErrTwice},
		{"waiting with another Char", insertOf(mk(5, 1), mk(4, 1), 'e'), api.ErrClash},
		{"waiting with another Anchor that isn't there", insertOf(mk(5, 1), mk(4, 2), 'd'), api.ErrClash},
	} {
		t.Run(c.name, func(t *testing.T) { refused(t, p, c.o, c.want) })
	}
	refused(t, pair{}, op.Op{Kind: 2}, api.ErrForm)
	refused(t, pair{}, op.Op{}, api.ErrRange)
	refused(t, pair{}, insertOf(mk(1, 1), mk(1, 1), 'a'), api.ErrOrder)
	refused(t, pair{}, insertOf(mk(1, 1), id.ID{}, 0), api.ErrForm)
}

// Sixteen may wait, whatever is there. What is let in makes room.
func TestP81FullRoom(t *testing.T) {
	var l []op.Op
	for i := range 16 {
		l = append(l, insertOf(mk(int64(40-i), i+1), mk(int64(i%4+2), 1), 'a'+rune(i)))
	}
	l[9] = deleteOf(mk(3, 1))
	fifteen := behind(t, append(ops(t, "+1.1 - 5f"), l[:15]...))
	p, _, e := fifteen.remote(t, l[15])
	if e != api.OK || len(p.v.Waiting()) != 16 {
		t.Fatalf("%v, %d wait", e, len(p.v.Waiting()))
	}
	for _, o := range ops(t, "-2.1, -50.1, +50.1 3.1 61, +2.1 1.9 61") {
		refused(t, p, o, api.ErrFull)
	}
	refused(t, p, l[9], api.ErrTwice)
	refused(t, p, l[15], api.ErrTwice)
	refused(t, p, insertOf(l[0].ID, mk(3, 1), 'z'), api.ErrClash)
	refused(t, p, ops(t, "+1.1 - 5f")[0], api.ErrTwice)
	refused(t, p, ops(t, "+1.1 - 60")[0], api.ErrClash)

	// what needn't wait comes in, and lets others in
	next, changes, e := p.remote(t, ops(t, "+2.2 1.1 78")[0])
	if e != api.OK || len(changes) != 1 || len(next.v.Waiting()) != 16 {
		t.Fatalf("%v, %s", e, story(changes))
	}
	next, changes, e = next.remote(t, ops(t, "+3.1 1.1 78")[0])
	if e != api.OK || len(changes) != 5 || len(next.v.Waiting()) != 12 {
		t.Fatalf("%v, %s", e, story(changes))
	}
	next, changes, e = next.remote(t, ops(t, "-2.1")[0])
	if e != api.OK || len(changes) != 0 || len(next.v.Waiting()) != 13 {
		t.Fatalf("%v, %s", e, story(changes))
	}
}

// grown is the pair of n elements, inserted one behind the other.
func grown(t *testing.T, n int) pair {
	t.Helper()
	var p pair
	for i := range n {
		v, o, l, e := p.v.Insert(i%1000+1, i, ' '+rune(i))
		if e != api.OK || o.ID.Counter != int64(i+1) || len(l) != 1 {
			t.Fatalf("the %d-th Insert: %+v, %s, %v", i, o, story(l), e)
		}
		p = pair{v, model{append(p.m.applied, o), nil, int64(i + 1)}}
	}
	return p
}

func TestP81FullElements(t *testing.T) {
	some := grown(t, 4095)
	full, l, e := some.remote(t, ops(t, "+5000.1 - 61")[0])
	if e != api.OK || story(l) != "4096 +0 5000.1 a" {
		t.Fatalf("%v, %s", e, story(l))
	}
	refused(t, full, ops(t, "+5001.1 - 61")[0], api.ErrFull)
	refused(t, full, ops(t, "+5001.1 5000.1 61")[0], api.ErrFull)
	refused(t, full, ops(t, "+5000.1 - 61")[0], api.ErrTwice)
	refused(t, full, ops(t, "+5000.1 - 62")[0], api.ErrClash)
	refused(t, full, insertOf(mk(5001, 1), id.ID{}, 0), api.ErrForm)
	waits, l, e := full.remote(t, ops(t, "+5002.1 5001.1 61")[0])
	if e != api.OK || len(l) != 0 || len(waits.v.Waiting()) != 1 {
		t.Fatalf("%v, %s", e, story(l))
	}
	refused(t, waits, ops(t, "+5001.1 - 61")[0], api.ErrFull)
	refused(t, waits, ops(t, "+5002.1 5001.1 61")[0], api.ErrTwice)
	fewer, l, e := full.remote(t, ops(t, "-5000.1")[0])
	if e != api.OK || story(l) != "4097 -0 5000.1 a" {
		t.Fatalf("%v, %s", e, story(l))
	}
	refused(t, fewer, ops(t, "+5001.1 - 61")[0], api.ErrFull)
}

// What waited for one that fills the row is gone, as far as it is an Insert; what
// waited for that waits on.
func TestP81GoneAsFull(t *testing.T) {
	p := grown(t, 4094)
	for _, o := range ops(t, "+5002.1 5001.1 62, +5003.1 5002.1 63, +5004.1 5003.1 64, -5003.1, -5002.1, -7.9") {
		next, _, e := p.remote(t, o)
		if e != api.OK {
			t.Fatalf("Remote(%v): %v", o, e)
		}
		p = next
	}
	next, l, e := p.remote(t, ops(t, "+5001.1 - 61")[0])
	if e != api.OK || story(l) != "4095 +0 5001.1 a, 4096 +1 5002.1 b, 4097 -1 5002.1 b" {
		t.Fatalf("%v, %s", e, story(l))
	}
	if got := texts(next.v.Waiting()); got != "+5004.1 5003.1 64, -5003.1, -7.9" {
		t.Fatalf("%s wait", got)
	}
	if next.v.Len() != 4095 || next.v.Tally().N != 4096 {
		t.Fatalf("%d alive, the tally %v", next.v.Len(), next.v.Tally())
	}
}

func TestP82Example(t *testing.T) {
	p, o, l, e := pair{}.insert(t, 1, 0, 'a')
	if o.String() != "+1.1 - 61" || story(l) != "1 +0 1.1 a" || e != api.OK {
		t.Fatalf("%v, %s, %v", o, story(l), e)
	}
	p, o, l, e = p.insert(t, 1, 1, 'b')
	if o.String() != "+2.1 1.1 62" || story(l) != "2 +1 2.1 b" || e != api.OK {
		t.Fatalf("%v, %s, %v", o, story(l), e)
	}
	p, o, l, e = p.delete(t, 0)
	if o.String() != "-1.1" || story(l) != "3 -0 1.1 a" || e != api.OK {
		t.Fatalf("%v, %s, %v", o, story(l), e)
	}
	if p.v.Text() != "b" || p.v.Seq() != 3 {
		t.Fatalf("%q, Seq %d", p.v.Text(), p.v.Seq())
	}
}

// Inserts, behind operations: the operation, its change, and the text.
func TestP82Insert(t *testing.T) {
	const some = "+1.1 - 61, +2.1 1.1 62, +3.1 2.1 63, -2.1"
	const ends = "+1.1 - 61, +2.1 1.1 62, +3.1 2.1 63, -1.1, -3.1"
	for _, c := range []struct {
		name, ahead     string
		site, at        int
		char            rune
		o, change, text string
	}{
		{"at first", "", 1, 0, 'x', "+1.1 - 78", "1 +0 1.1 x", "x"},
		{"ahead of all", some, 1, 0, 'x', "+4.1 - 78", "5 +0 4.1 x", "xac"},
		{"ahead of a dead one", some, 1, 1, 'x', "+4.1 1.1 78", "5 +1 4.1 x", "axc"},
		{"behind all", some, 1, 2, 'x', "+4.1 3.1 78", "5 +2 4.1 x", "acx"},
		{"ahead of a dead one, at 0", ends, 1, 0, 'x', "+4.1 - 78", "6 +0 4.1 x", "xb"},
		{"behind all that are alive", ends, 1, 1, 'x', "+4.1 2.1 78", "6 +1 4.1 x", "bx"},
		{"where all are dead", "+1.1 - 61, -1.1", 1, 0, 'x', "+2.1 - 78", "3 +0 2.1 x", "x"},
		{"ahead of followers of another replica", "+1.1 - 61, +9.9 1.1 62", 1, 1, 'x', "+10.1 1.1 78", "3 +1 10.1 x", "axb"},
		{"the least site", some, 1, 0, 'x', "+4.1 - 78", "5 +0 4.1 x", "xac"},
		{"the greatest site", some, 1000, 0, 'x', "+4.1000 - 78", "5 +0 4.1000 x", "xac"},
		{"the least Char", some, 1, 0, ' ', "+4.1 - 20", "5 +0 4.1  ", " ac"},
		{"the Char below what is none", some, 1, 0, 0xd7ff, "+4.1 - d7ff", "5 +0 4.1 \ud7ff", "\ud7ffac"},
		{"the Char above what is none", some, 1, 0, 0xe000, "+4.1 - e000", "5 +0 4.1 \ue000", "\ue000ac"},
		{"the greatest Char", some, 1, 0, 0x10ffff, "+4.1 - 10ffff", "5 +0 4.1 \U0010ffff", "\U0010ffffac"},

		{"the next counter, by the greatest Counter", "+5.1 - 61, +2.9 - 62", 3, 0, 'x', "+6.3 - 78", "3 +0 6.3 x", "xab"},
		{"the next counter, behind a dead one", "+5.1 - 61, +2.1 - 62, -5.1", 3, 0, 'x', "+6.3 - 78", "4 +0 6.3 x", "xb"},
		{"the next counter, behind an Insert that waits", "+1.1 - 61, +9.1 8.1 62", 3, 0, 'x', "+10.3 - 78", "2 +0 10.3 x", "xa"},
		{"the next counter, behind a Delete that waits", "+1.1 - 61, -12.1", 3, 0, 'x', "+13.3 - 78", "2 +0 13.3 x", "xa"},
		{"the next counter, behind what waits in a text without elements", "-12.1, +9.1 8.1 62", 3, 0, 'x', "+13.3 - 78", "1 +0 13.3 x", "x"},
		{"the next counter, where lesser ones wait", "+9.1 - 61, -8.1, +7.1 6.1 62", 3, 1, 'x', "+10.3 9.1 78", "2 +1 10.3 x", "ax"},
		{"the next counter, where alike ones wait", "+9.1 - 61, -9.2", 3, 1, 'x', "+10.3 9.1 78", "2 +1 10.3 x", "ax"},
		{"the greatest next counter", "+1048575.1000 - 61", 1, 1, 'x', "+1048576.1 1048575.1000 78", "2 +1 1048576.1 x", "ax"},
		{"the greatest next counter, behind what waits", "+1.1 - 61, -1048575.1000", 1, 1, 'x', "+1048576.1 1.1 78", "2 +1 1048576.1 x", "ax"},
	} {
		t.Run(c.name, func(t *testing.T) {
			p := behind(t, ops(t, c.ahead))
			next, o, l, e := p.insert(t, c.site, c.at, c.char)
			if o.String() != c.o || story(l) != c.change || e != api.OK {
				t.Errorf("%v, %s, %v, not %s, %s", o, story(l), e, c.o, c.change)
			}
			if next.v.Text() != c.text || next.v.Seq() != p.v.Seq()+1 || texts(next.v.Waiting()) != texts(p.v.Waiting()) {
				t.Errorf("%q, Seq %d, %s wait", next.v.Text(), next.v.Seq(), texts(next.v.Waiting()))
			}
		})
	}
}

// noInsert asks for an Insert that a version must refuse.
func noInsert(t *testing.T, p pair, site, at int, char rune, want api.Errno) {
	t.Helper()
	next, o, l, e := p.insert(t, site, at, char)
	if e != want || o != (op.Op{}) || len(l) != 0 {
		t.Fatalf("Insert(%d, %d, %d): %+v, %s, %v, not %v", site, at, char, o, story(l), e, want)
	}
	same(t, next.v, p.m)
}

// The sites, places and Chars that may not be, and those next to them, which may.
var (
	wrongSites = []int{0, 1001, -1, 1025, 1<<32 + 1, math.MaxInt, math.MinInt}
	wrongChars = []rune{31, 0, -1, 0xd800, 0xdbff, 0xdfff, 0x110000, math.MaxInt32, math.MinInt32}
)

func TestP82InsertErrors(t *testing.T) {
	for _, ahead := range []string{"", "+1.1 - 61, +2.1 1.1 62, +3.1 2.1 63, -2.1, -9.9", "+1.1 - 61, -1.1"} {
		p := behind(t, ops(t, ahead))
		n := p.v.Len()
		wrongPlaces := []int{-1, n + 1, n + 2, n + 3, 1 << 32, math.MaxInt, math.MinInt}
		for _, site := range wrongSites {
			noInsert(t, p, site, 0, 'x', api.ErrRange)
			noInsert(t, p, site, n, 31, api.ErrRange)
			noInsert(t, p, site, n+1, 31, api.ErrRange)
		}
		for _, at := range wrongPlaces {
			noInsert(t, p, 1, at, 'x', api.ErrRange)
			noInsert(t, p, 1000, at, 0xd800, api.ErrRange)
			noInsert(t, p, 1001, at, 'x', api.ErrRange)
		}
		for _, char := range wrongChars {
			noInsert(t, p, 1, 0, char, api.ErrForm)
			noInsert(t, p, 1000, n, char, api.ErrForm)
		}
	}
}

// Above 2^20 there is no next counter, whatever has the greatest one. The other
// errors come ahead of that, and Deletes go on.
func TestP82NoNextCounter(t *testing.T) {
	for _, ahead := range []string{
		"+1.1 - 61, +1048576.1 - 62",
		"+1.1 - 61, +1048576.1 - 62, -1048576.1",
		"+1.1 - 61, +1048576.1 1048575.1 62",
		"+1.1 - 61, -1048576.1000",
		"+1.1 - 61, -1048576.1000, +2.1 1.1 62, -2.1",
	} {
		p := behind(t, ops(t, ahead))
		n := p.v.Len()
		noInsert(t, p, 1, 0, 'x', api.ErrFull)
		noInsert(t, p, 1000, n, 'x', api.ErrFull)
		noInsert(t, p, 1, 0, 31, api.ErrForm)
		noInsert(t, p, 1001, 0, 'x', api.ErrRange)
		noInsert(t, p, 0, 0, 31, api.ErrRange)
		noInsert(t, p, 1, n+1, 'x', api.ErrRange)
		noInsert(t, p, 1, -1, 31, api.ErrRange)
		if _, _, _, e := p.delete(t, 0); e != api.OK {
			t.Errorf("Delete: %v", e)
		}
	}
	p := behind(t, ops(t, "+1048575.1 - 61"))
	p, _, _, e := p.insert(t, 1, 1, 'x')
	if e != api.OK {
		t.Fatal(e)
	}
	noInsert(t, p, 1, 1, 'x', api.ErrFull)
}

func TestP82FullElements(t *testing.T) {
	some := grown(t, 4095)
	full, o, l, e := some.insert(t, 1000, 4095, 'x')
	if o.ID != mk(4096, 1000) || story(l) != "4096 +4095 4096.1000 x" || e != api.OK {
		t.Fatalf("%v, %s, %v", o, story(l), e)
	}
	noInsert(t, full, 1, 0, 'x', api.ErrFull)
	noInsert(t, full, 1, 4096, 'x', api.ErrFull)
	noInsert(t, full, 1, 4097, 'x', api.ErrRange)
	noInsert(t, full, 1, -1, 'x', api.ErrRange)
	noInsert(t, full, 1001, 0, 31, api.ErrRange)
	noInsert(t, full, 1, 0, 31, api.ErrForm)

	// the dead are elements, too
	fewer, o, l, e := full.delete(t, 4095)
	if o.String() != "-4096.1000" || story(l) != "4097 -4095 4096.1000 x" || e != api.OK {
		t.Fatalf("%v, %s, %v", o, story(l), e)
	}
	noInsert(t, fewer, 1, 0, 'x', api.ErrFull)
	noInsert(t, fewer, 1, 4096, 'x', api.ErrRange)
	noDelete(t, fewer, 4095)
}

func TestP82Delete(t *testing.T) {
	const some = "+1.1 - 61, +2.1 1.1 62, +3.1 2.1 63, +4.1 3.1 64, -2.1, +9.1 8.1 65"
	for _, c := range []struct {
		name, ahead     string
		at              int
		o, change, text string
	}{
		{"the only one", "+7.1000 - 61", 0, "-7.1000", "2 -0 7.1000 a", ""},
		{"the first", some, 0, "-1.1", "6 -0 1.1 a", "cd"},
		{"behind a dead one", some, 1, "-3.1", "6 -1 3.1 c", "ad"},
		{"the last", some, 2, "-4.1", "6 -2 4.1 d", "ac"},
		{"the first is dead", "+1.1 - 61, +2.1 1.1 62, -1.1", 0, "-2.1", "4 -0 2.1 b", ""},
		{"the last is dead", "+1.1 - 61, +2.1 1.1 62, -2.1", 0, "-1.1", "4 -0 1.1 a", ""},
		{"of the greatest Counter", "+1048576.1 - 61", 0, "-1048576.1", "2 -0 1048576.1 a", ""},
	} {
		t.Run(c.name, func(t *testing.T) {
			p := behind(t, ops(t, c.ahead))
			next, o, l, e := p.delete(t, c.at)
			if o.String() != c.o || story(l) != c.change || e != api.OK {
				t.Errorf("%v, %s, %v, not %s, %s", o, story(l), e, c.o, c.change)
			}
			if next.v.Text() != c.text || next.v.Seq() != p.v.Seq()+1 || texts(next.v.Waiting()) != texts(p.v.Waiting()) {
				t.Errorf("%q, Seq %d, %s wait", next.v.Text(), next.v.Seq(), texts(next.v.Waiting()))
			}
			if next.v.Tally() != p.v.Tally() {
				t.Errorf("the tally %v, not %v", next.v.Tally(), p.v.Tally())
			}
		})
	}
}

// noDelete asks for a Delete that a version must refuse.
func noDelete(t *testing.T, p pair, at int) {
	t.Helper()
	next, o, l, e := p.delete(t, at)
	if e != api.ErrRange || o != (op.Op{}) || len(l) != 0 {
		t.Fatalf("Delete(%d): %+v, %s, %v", at, o, story(l), e)
	}
	same(t, next.v, p.m)
}

func TestP82DeleteErrors(t *testing.T) {
	for _, ahead := range []string{"", "-1.1, +3.1 2.1 61", "+1.1 - 61, -1.1", "+1.1 - 61", "+1.1 - 61, +2.1 1.1 62, +3.1 2.1 63, -2.1"} {
		p := behind(t, ops(t, ahead))
		n := p.v.Len()
		for _, at := range []int{-1, n, n + 1, n + 2, 1 << 32, -1 << 32, math.MaxInt, math.MinInt} {
			noDelete(t, p, at)
		}
	}
}

func TestP83AtFirst(t *testing.T) {
	var v version.Version
	same(t, v, model{})
	if v.Text() != "" || v.Len() != 0 || v.Seq() != 0 || len(v.Waiting()) != 0 || v.Tally().String() != "0 0 0 0 0" {
		t.Errorf("%q, %d, %d, %v, %v", v.Text(), v.Len(), v.Seq(), v.Waiting(), v.Tally())
	}
}

func TestP83Tells(t *testing.T) {
	v := behind(t, ops(t, "+3.2 - 61, +4.1 3.2 20ac, +4.2 3.2 1f600, -3.2, +9.1 8.1 62, -7.1")).v
	if v.Text() != "\U0001f600€" || v.Len() != 2 || v.Seq() != 4 {
		t.Errorf("%q, %d, %d", v.Text(), v.Len(), v.Seq())
	}
	if got := texts(v.Waiting()); got != "+9.1 8.1 62, -7.1" {
		t.Errorf("%s wait", got)
	}
	if got := v.Tally().String(); got != "3 11 5 32 36" {
		t.Errorf("the tally %s", got)
	}
	for i, a := range []id.ID{mk(4, 2), mk(4, 1)} {
		if got, ok := v.Named(i); got != a || !ok {
			t.Errorf("Named(%d): %v, %v", i, got, ok)
		}
		if n, ok := v.Before(a); n != i || !ok {
			t.Errorf("Before(%v): %d, %v", a, n, ok)
		}
	}
	if n, ok := v.Before(mk(3, 2)); n != 0 || !ok {
		t.Errorf("Before a dead one: %d, %v", n, ok)
	}
}

// Before counts those alone that are alive, be the one itself dead or not.
func TestP83BeforeTheDead(t *testing.T) {
	v := behind(t, ops(t, "+1.1 - 61, +2.1 1.1 62, +3.1 2.1 63, +4.1 3.1 64, +5.1 4.1 65, -2.1, -4.1, -5.1")).v
	for i, want := range []int{0, 1, 1, 2, 2} {
		if n, ok := v.Before(mk(int64(i+1), 1)); n != want || !ok {
			t.Errorf("Before(%d.1): %d, %v, not %d", i+1, n, ok, want)
		}
	}
}

func TestP83WhatIsNotThere(t *testing.T) {
	some := behind(t, ops(t, "+3.5 - 61, +4.5 3.5 62, -3.5, +9.1 8.1 63, -7.1")).v
	for name, v := range map[string]version.Version{"some": some, "first": {}} {
		for _, a := range []id.ID{
			{}, mk(9, 1), mk(8, 1), mk(7, 1), mk(3, 4), mk(3, 6), mk(2, 5), mk(5, 5), mk(5, 3), mk(1048576, 1000), mk(3, 0), mk(0, 5),
			mk(3, 1001), mk(2, 1029), mk(-3, 5), mk(3, -5), mk(3+1<<20, 5), mk(3+1<<32, 5), mk(math.MaxInt64, math.MaxInt), mk(math.MinInt64, math.MinInt),
		} {
			if n, ok := v.Before(a); n != 0 || ok {
				t.Errorf("%s: Before(%+v): %d, %v", name, a, n, ok)
			}
		}
		for _, at := range []int{-1, v.Len(), v.Len() + 1, 1 << 32, math.MaxInt, math.MinInt} {
			if a, ok := v.Named(at); a != (id.ID{}) || ok {
				t.Errorf("%s: Named(%d): %v, %v", name, at, a, ok)
			}
		}
	}
}

// names are the ids of the elements alive, in order.
func names(v version.Version) []id.ID {
	var l []id.ID
	for at := range v.Len() {
		a, _ := v.Named(at)
		l = append(l, a)
	}
	return l
}

// What one replica writes is what an editor's text would be, whatever others put in
// between; all other elements stand as they stood.
func TestP84InsertAndDeleteWhereTheySay(t *testing.T) {
	for seed := range int64(10) {
		random := rand.New(rand.NewSource(seed))
		var v version.Version
		for step := range 300 {
			was, text := names(v), []rune(v.Text())
			var l []version.Change
			var e api.Errno
			switch at := random.Intn(v.Len() + 1); {
			case step%7 == 3:
				v, _, _ = v.Remote(anyOp(random))
				continue
			case at < v.Len() && random.Intn(3) == 0:
				v, _, l, e = v.Delete(at)
				was, text = slices.Delete(was, at, at+1), slices.Delete(text, at, at+1)
				if len(l) != 1 || l[0].At != at || !l[0].Del {
					t.Fatalf("Delete(%d): %s", at, story(l))
				}
			default:
				var o op.Op
				char := rune(random.Intn(200) + 32)
				v, o, l, e = v.Insert(random.Intn(1000)+1, at, char)
				was, text = slices.Insert(was, at, o.ID), slices.Insert(text, at, char)
				if len(l) != 1 || l[0].At != at || l[0].Del || l[0].Char != char {
					t.Fatalf("Insert(.., %d, %d): %s", at, char, story(l))
				}
			}
			if e != api.OK || v.Text() != string(text) || !slices.Equal(names(v), was) {
				t.Fatalf("%v: %q, not %q", e, v.Text(), string(text))
			}
		}
	}
}

// anyOp is an operation of few ids, so that some meet; now and then one that may not
// be.
func anyOp(random *rand.Rand) op.Op {
	a := mk(int64(random.Intn(12)+1), random.Intn(3)+1)
	switch random.Intn(20) {
	case 0:
		a.Site = 1001
	case 1:
		return op.Op{Kind: op.Kind(random.Intn(3)), ID: a, Anchor: a, Char: 'a'}
	case 2, 3, 4, 5, 6:
		return deleteOf(a)
	}
	anchor := mk(random.Int63n(a.Counter), random.Intn(3)+1)
	if anchor.Counter == 0 {
		anchor = id.ID{}
	}
	return insertOf(a, anchor, 'a'+rune(random.Intn(2)))
}

// forests: all ways in which Inserts of some ids, rising, can follow each other.
func forests(ids []id.ID) [][]op.Op {
	all := [][]op.Op{nil}
	for i, a := range ids {
		var next [][]op.Op
		for _, l := range all {
			next = append(next, append(slices.Clone(l), insertOf(a, id.ID{}, 'a'+rune(i))))
			for _, b := range ids[:i] {
				if b.Counter < a.Counter {
					next = append(next, append(slices.Clone(l), insertOf(a, b, 'a'+rune(i))))
				}
			}
		}
		all = next
	}
	return all
}

// orders hands on all orders of some operations.
func orders(l []op.Op, done int, hand func([]op.Op)) {
	if done == len(l) {
		hand(l)
		return
	}
	for i := done; i < len(l); i++ {
		l[done], l[i] = l[i], l[done]
		orders(l, done+1, hand)
		l[done], l[i] = l[i], l[done]
	}
}

// Each order of small sets, in which each operation comes ahead of what it waits for
// now and then.
func TestP84EveryOrder(t *testing.T) {
	ids := []id.ID{mk(1, 1), mk(1, 2), mk(2, 1), mk(3, 1)}
	for _, l := range forests(ids) {
		for _, a := range ids {
			set := append(slices.Clone(l), deleteOf(a), deleteOf(ids[3]))
			if a == ids[3] {
				set = set[:5]
			}
			want := model{applied: set, seq: int64(len(set))}
			orders(slices.Clone(set), 0, func(order []op.Op) {
				var v version.Version
				for _, o := range order {
					next, _, e := v.Remote(o)
					if e != api.OK {
						t.Fatalf("Remote(%v) of %s: %v", o, texts(order), e)
					}
					v = next
				}
				same(t, v, want)
			})
		}
	}
}

// told is the version behind operations in an order that goes some way wrong. What
// is refused for the room's sake is told again, later; what was taken in, or waits,
// is told twice.
func told(t *testing.T, random *rand.Rand, l []op.Op) version.Version {
	t.Helper()
	var v version.Version
	l = slices.Clone(l)
	for len(l) > 0 {
		i := random.Intn(min(len(l), 12))
		o := l[i]
		l = slices.Delete(l, i, i+1)
		next, changes, e := v.Remote(o)
		if e == api.ErrFull {
			l = append(l, o)
			continue
		}
		if e != api.OK || next.Seq() != v.Seq()+int64(len(changes)) {
			t.Fatalf("Remote(%v): %v, Seq %d behind %d", o, e, next.Seq(), v.Seq())
		}
		v = next
		if again, more, e := v.Remote(o); e != api.ErrTwice || len(more) != 0 || again.Seq() != v.Seq() {
			t.Fatalf("Remote(%v) twice: %s, %v", o, story(more), e)
		}
	}
	return v
}

// Replicas that write at once and tell each other, in unlike orders, are alike.
func TestP84OrdersOfMany(t *testing.T) {
	for seed := range int64(15) {
		random := rand.New(rand.NewSource(seed))
		var all []op.Op
		sites := make([]version.Version, 3)
		heard := make([]int, 3)
		for range 300 {
			k := random.Intn(3)
			// each hears the others' operations late, and its own at once
			for range random.Intn(6) {
				if heard[k] < len(all) {
					o := all[heard[k]]
					heard[k]++
					next, _, e := sites[k].Remote(o)
					if e != api.OK && e != api.ErrTwice {
						t.Fatalf("Remote(%v): %v", o, e)
					}
					sites[k] = next
				}
			}
			var o op.Op
			n := sites[k].Len()
			if n > 0 && random.Intn(3) == 0 {
				sites[k], o, _, _ = sites[k].Delete(random.Intn(n))
			} else {
				sites[k], o, _, _ = sites[k].Insert(k+1, random.Intn(n+1), 'a'+rune(random.Intn(26)))
			}
			// two may take out the same one
			if !slices.Contains(all, o) {
				all = append(all, o)
			}
		}
		want := model{applied: all, seq: int64(len(all))}
		for k := range sites {
			for _, o := range all[heard[k]:] {
				sites[k], _, _ = sites[k].Remote(o)
			}
			same(t, sites[k], want)
		}
		for range 8 {
			same(t, told(t, random, all), want)
		}
	}
}

// answer is what a call told, and a copy of it.
type answer struct {
	changes, changesThen []version.Change
	waiting, waitingThen []op.Op
}

// world is versions, made of each other, and what they told.
type world struct {
	t       *testing.T
	random  *rand.Rand
	pairs   []pair
	answers []answer
	counts  map[string]int
}

// keep has a version stay, and what its call told.
func (w *world) keep(name string, p pair, l []version.Change, e api.Errno) {
	w.counts[name+" "+e.Word()]++
	waiting := p.v.Waiting()
	w.answers = append(w.answers, answer{l, slices.Clone(l), waiting, slices.Clone(waiting)})
	if e == api.OK {
		w.pairs = append(w.pairs, p)
	}
}

// step makes one more of one of the versions, of the last ones more than of others.
func (w *world) step() {
	p := w.pairs[len(w.pairs)-1]
	if w.random.Intn(5) == 0 {
		p = w.pairs[w.random.Intn(len(w.pairs))]
	}
	// beyond both ends, too
	at := w.random.Intn(p.v.Len()+4) - 1
	switch w.random.Intn(8) {
	case 0:
		site := w.random.Intn(5)
		if site == 4 {
			site = 1001 - w.random.Intn(2)
		}
		char := 'a' + rune(w.random.Intn(4))
		if w.random.Intn(5) == 0 {
			char = 31
		}
		next, _, l, e := p.insert(w.t, site, at, char)
		w.keep("insert", next, l, e)
	case 1:
		next, _, l, e := p.delete(w.t, at)
		w.keep("delete", next, l, e)
	default:
		next, l, e := p.remote(w.t, anyOp(w.random))
		w.keep("remote", next, l, e)
	}
}

// Whatever is made of versions, and of which, in whatever order: each of them, and
// what it told, stays as it was.
func TestAnyVersionsStayAsTheyWere(t *testing.T) {
	for seed := range int64(12) {
		w := &world{t: t, random: rand.New(rand.NewSource(seed)), pairs: []pair{{}}, counts: map[string]int{}}
		for range 900 {
			w.step()
		}
		for _, s := range []string{"remote ok", "remote form", "remote range", "remote order", "remote twice", "remote clash", "insert ok", "insert form", "insert range", "delete ok", "delete range"} {
			if w.counts[s] == 0 {
				t.Errorf("seed %d: never %s", seed, s)
			}
		}
		for _, p := range w.pairs {
			same(t, p.v, p.m)
		}
		for _, a := range w.answers {
			if !slices.Equal(a.changes, a.changesThen) || !slices.Equal(a.waiting, a.waitingThen) {
				t.Fatalf("told %s and %s, not %s and %s", story(a.changes), texts(a.waiting), story(a.changesThen), texts(a.waitingThen))
			}
		}
	}
}

// Of each number of those that wait: two more come into the same room, and each of
// them is let in by an operation of its own. None may be written over.
func TestTwiceOfTheSameOne(t *testing.T) {
	var p pair
	for n := range 15 {
		a := mk(int64(100+n), 1)
		x, _, _ := p.remote(t, insertOf(a, mk(50, 1), 'x'))
		y, _, _ := p.remote(t, insertOf(a, mk(50, 2), 'y'))
		_, l, _ := x.remote(t, insertOf(mk(50, 1), id.ID{}, 'p'))
		if len(l) != 2+n || l[n+1].Char != 'x' {
			t.Fatalf("%d wait: %s", n+1, story(l))
		}
		_, l, _ = y.remote(t, insertOf(mk(50, 2), id.ID{}, 'q'))
		if len(l) != 2 || l[1].Char != 'y' {
			t.Fatalf("%d wait: %s", n+1, story(l))
		}
		same(t, x.v, x.m)
		same(t, y.v, y.m)
		p = x
	}
}

// What is handed out is new memory: whoever writes there, or behind its end, changes
// no version, and no other answer.
func TestAnswersAreNewMemory(t *testing.T) {
	p := behind(t, ops(t, "+2.1 1.1 62, +3.1 2.1 63, -2.1, -9.9, +8.1 7.1 64"))
	a, b := p.v.Waiting(), p.v.Waiting()
	first, l, _ := p.remote(t, ops(t, "+1.1 - 61")[0])
	_, m, _ := p.remote(t, ops(t, "+1.1 - 61")[0])
	for i := range a {
		a[i] = op.Op{}
	}
	for i := range l {
		l[i] = version.Change{Seq: -1}
	}
	_, _ = append(a, op.Op{Kind: 7}), append(l, version.Change{Seq: -2})
	_ = append(a[:1], op.Op{Kind: 7})
	if texts(b) != "+2.1 1.1 62, +3.1 2.1 63, -2.1, -9.9, +8.1 7.1 64" {
		t.Errorf("another answer: %s", texts(b))
	}
	if story(m) != "1 +0 1.1 a, 2 +1 2.1 b, 3 +2 3.1 c, 4 -1 2.1 b" {
		t.Errorf("another answer: %s", story(m))
	}
	same(t, p.v, p.m)
	same(t, first.v, first.m)
}

// Each change is one of the Seqs, one behind the other, and all of them make the text.
func TestP81ChangesMakeTheText(t *testing.T) {
	for seed := range int64(20) {
		random := rand.New(rand.NewSource(seed))
		var v version.Version
		var text []rune
		var seq int64
		for range 200 {
			next, l, _ := v.Remote(anyOp(random))
			if random.Intn(4) == 0 {
				next, _, l, _ = v.Insert(random.Intn(3)+1, random.Intn(v.Len()+1), 'z')
			}
			for _, c := range l {
				seq++
				if c.Seq != seq || c.At < 0 || c.At > len(text) {
					t.Fatalf("%s behind the Seq %d and %q", story(l), seq-1, string(text))
				}
				if !c.Del {
					text = slices.Insert(text, c.At, c.Char)
				} else if text[c.At] == c.Char {
					text = slices.Delete(text, c.At, c.At+1)
				}
			}
			v = next
			if v.Text() != string(text) || v.Seq() != seq {
				t.Fatalf("%q, Seq %s, not %q", v.Text(), strconv.FormatInt(v.Seq(), 10), string(text))
			}
		}
	}
}
