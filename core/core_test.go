package core_test

import (
	"math"
	"math/rand"
	"slices"
	"strings"
	"testing"

	"selvedge/api"
	"selvedge/core"
	"selvedge/id"
	"selvedge/op"
	"selvedge/pmap"
	"selvedge/ptree"
)

func mk(counter int64, site int) id.ID { return id.ID{Counter: counter, Site: site} }

func insertOf(a, anchor id.ID, char rune) op.Op {
	return op.Op{Kind: op.Insert, ID: a, Anchor: anchor, Char: char}
}

func deleteOf(a id.ID) op.Op { return op.Op{Kind: op.Delete, ID: a} }

// must is the operation of a text.
func must(t *testing.T, s string) op.Op {
	t.Helper()
	o, e := op.Parse(s)
	if e != api.OK {
		t.Fatalf("Parse(%q): %v", s, e)
	}
	return o
}

// ops are the operations of texts, with a comma between them.
func ops(t *testing.T, s string) []op.Op {
	t.Helper()
	var l []op.Op
	for _, x := range strings.Split(s, ", ") {
		l = append(l, must(t, x))
	}
	return l
}

// falling is the order in which followers stand.
func falling(a, b id.ID) int {
	if a.Less(b) {
		return 1
	}
	return -1
}

// list is the list of operations, as the chapter's head tells it.
func list(l []op.Op) []ptree.Elem {
	followers := map[id.ID][]id.ID{}
	chars := map[id.ID]rune{}
	dead := map[id.ID]bool{}
	for _, o := range l {
		if o.Kind == op.Delete {
			dead[o.ID] = true
			continue
		}
		followers[o.Anchor] = append(followers[o.Anchor], o.ID)
		chars[o.ID] = o.Char
	}
	var row []ptree.Elem
	var follow func(id.ID)
	follow = func(a id.ID) {
		for _, b := range slices.SortedFunc(slices.Values(followers[a]), falling) {
			row = append(row, ptree.Elem{ID: b, Char: chars[b], Dead: dead[b]})
			follow(b)
		}
	}
	follow(id.ID{})
	return row
}

// wanted is the error of an operation that may be, behind others.
func wanted(l []op.Op, o op.Op) api.Errno {
	there := func(a id.ID) int {
		return slices.IndexFunc(l, func(b op.Op) bool { return b.Kind == op.Insert && b.ID == a })
	}
	i := there(o.ID)
	switch {
	case o.Kind == op.Delete && i < 0:
		return api.ErrNone
	case o.Kind == op.Delete && slices.Contains(l, o):
		return api.ErrTwice
	case o.Kind == op.Delete:
		return api.OK
	case i >= 0 && l[i] == o:
		return api.ErrTwice
	case i >= 0:
		return api.ErrClash
	case o.Anchor != id.ID{} && there(o.Anchor) < 0:
		return api.ErrNone
	case len(list(l)) == api.MaxElems:
		return api.ErrFull
	}
	return api.OK
}

// sameRow holds a state's row against the list that it must be.
func sameRow(t *testing.T, s core.State, row []ptree.Elem) {
	t.Helper()
	if s.Elems.Len() != len(row) {
		t.Fatalf("%d elements, not %d", s.Elems.Len(), len(row))
	}
	for i, e := range s.Elems.All() {
		if e != row[i] {
			t.Fatalf("the %d-th of %d: %+v, not %+v", i, len(row), e, row[i])
		}
	}
}

// sameState holds all that a state has and answers against the operations that were
// applied.
func sameState(t *testing.T, s core.State, l []op.Op) {
	t.Helper()
	row := list(l)
	sameRow(t, s, row)
	if s.Index.Len() != len(row) {
		t.Fatalf("%d entries of %d elements", s.Index.Len(), len(row))
	}
	for i, e := range row {
		if at, ok := s.Find(e.ID); at != i || !ok {
			t.Fatalf("Find(%v): %d, %v, not %d", e.ID, at, ok, i)
		}
		if !s.Has(e.ID) {
			t.Fatalf("Has(%v): false", e.ID)
		}
	}
	dead := map[id.ID]bool{}
	for _, e := range row {
		dead[e.ID] = e.Dead
	}
	for _, o := range l {
		if o.Kind == op.Delete {
			continue
		}
		want := pmap.Entry{Anchor: o.Anchor, Char: o.Char, Dead: dead[o.ID]}
		if got, ok := s.Index.Get(o.ID); got != want || !ok {
			t.Fatalf("the entry of %v: %+v, %v, not %+v", o.ID, got, ok, want)
		}
	}
}

// apply is the state behind an operation that can be applied.
func apply(t *testing.T, s core.State, o op.Op) core.State {
	t.Helper()
	next, at, e := s.Apply(o)
	if e != api.OK {
		t.Fatalf("Apply(%v): %v", o, e)
	}
	if found, ok := next.Find(o.ID); at != found || !ok {
		t.Fatalf("Apply(%v): at %d, found at %d, %v", o, at, found, ok)
	}
	return next
}

// refused asks for an operation that a state must refuse.
func refused(t *testing.T, s core.State, l []op.Op, o op.Op, want api.Errno) {
	t.Helper()
	next, at, e := s.Apply(o)
	if e != want || at != -1 {
		t.Fatalf("Apply(%+v): at %d, %v, not %v", o, at, e, want)
	}
	sameState(t, next, l)
	sameState(t, s, l)
}

// state is the state behind operations, one after the other.
func state(t *testing.T, l []op.Op) core.State {
	t.Helper()
	var s core.State
	for _, o := range l {
		s = apply(t, s, o)
	}
	return s
}

func TestP61AtFirst(t *testing.T) {
	sameState(t, core.State{}, nil)
	if s := (core.State{}).Elems.Text(); s != "" {
		t.Errorf("Text: %q", s)
	}
}

func TestP61Example(t *testing.T) {
	var s core.State
	for _, c := range []struct {
		o    string
		at   int
		text string
	}{
		{"+1.1 - 61", 0, "a"},
		{"+2.1 1.1 62", 1, "ab"},
		{"+2.2 1.1 63", 1, "acb"},
		{"-1.1", 0, "cb"},
		{"+3.1 1.1 64", 1, "dcb"},
	} {
		next, at, e := s.Apply(must(t, c.o))
		if at != c.at || e != api.OK || next.Elems.Text() != c.text {
			t.Fatalf("%s: at %d, %v, %q, not at %d, %q", c.o, at, e, next.Elems.Text(), c.at, c.text)
		}
		s = next
	}
}

// The place at which the last operation of each row of them is done, and the text
// behind it.
func TestP61Places(t *testing.T) {
	for _, c := range []struct {
		name, l string
		at      int
		text    string
	}{
		{"behind None, alone", "+1.1 - 61", 0, "a"},
		{"behind None, the greatest", "+1.1 - 61, +1.2 - 62, +1.3 - 63", 0, "cba"},
		{"behind None, the least", "+1.2 - 62, +1.3 - 63, +1.1 - 61", 2, "cba"},
		{"behind None, between", "+1.1 - 61, +1.3 - 63, +1.2 - 62", 1, "cba"},
		{"behind None, by the Counter first", "+2.1 - 62, +1.9 - 61", 1, "ba"},
		{"behind None, by the Site then", "+2.1 - 61, +2.9 - 62", 0, "ba"},
		{"behind None, the Counters as numbers", "+9.1 - 61, +10.1 - 62", 0, "ba"},
		{"behind None, behind what follows a greater one", "+1.3 - 63, +2.1 1.3 64, +9.9 2.1 65, +1.2 - 62", 3, "cdeb"},
		{"behind None, ahead of what follows a lesser one", "+1.1 - 61, +9.1 1.1 62, +2.1 - 63", 0, "cab"},
		{"behind None, with followers of both", "+1.1 - 61, +1.3 - 63, +9.1 1.1 66, +9.3 1.3 67, +1.2 - 62", 2, "cgbaf"},
		{"at the end of a chain", "+1.1 - 61, +2.1 1.1 62, +3.1 2.1 63, +4.1 3.1 64", 3, "abcd"},
		{"the greatest follower", "+1.1 - 61, +2.1 1.1 62, +2.2 1.1 63, +2.3 1.1 64", 1, "adcb"},
		{"the least follower", "+1.1 - 61, +2.2 1.1 63, +2.3 1.1 64, +2.1 1.1 62", 3, "adcb"},
		{"a follower between", "+1.1 - 61, +2.1 1.1 62, +2.3 1.1 64, +2.2 1.1 63", 2, "adcb"},
		{"behind followers of a greater follower", "+1.1 - 61, +3.1 1.1 62, +4.1 3.1 63, +5.1 3.1 64, +9.1 5.1 65, +2.1 1.1 66", 5, "abdecf"},
		{"ahead of a lesser follower whose followers are greater", "+1.1 - 61, +2.1 1.1 62, +9.1 2.1 63, +3.1 1.1 64", 1, "adbc"},
		{"between followers with followers", "+1.1 - 61, +2.1 1.1 62, +5.1 2.1 63, +4.1 1.1 64, +6.1 4.1 65, +3.1 1.1 66", 3, "adefbc"},
		{"ahead of a lesser one of the Anchor's Anchor", "+1.1 - 61, +2.1 1.1 62, +2.2 1.1 63, +3.1 2.2 64", 2, "acdb"},
		{"ahead of a lesser one of an Anchor further ahead", "+1.1 - 61, +2.1 1.1 62, +2.2 1.1 63, +3.1 2.2 64, +4.1 3.1 65", 3, "acdeb"},
		{"not ahead of the Anchor, whatever stands there", "+1.1 - 61, +1.2 - 62, +2.1 1.1 63", 2, "bac"},
		{"behind a dead element", "+1.1 - 61, +1.2 - 62, -1.2, +2.1 1.2 63", 1, "ca"},
		{"behind the only one, dead", "+1.1 - 61, -1.1, +2.1 1.1 62", 1, "b"},
		{"behind a dead greater follower", "+1.1 - 61, +2.2 1.1 63, -2.2, +2.1 1.1 62", 2, "ab"},
		{"ahead of a dead lesser follower", "+1.1 - 61, +2.1 1.1 62, -2.1, +2.2 1.1 63", 1, "ac"},
		{"out of the front", "+1.1 - 61, +2.1 1.1 62, -1.1", 0, "b"},
		{"out of the end", "+1.1 - 61, +2.1 1.1 62, -2.1", 1, "a"},
		{"out of the midst", "+1.1 - 61, +2.1 1.1 62, +2.2 1.1 63, -2.2", 1, "ab"},
		{"out, behind dead ones", "+1.1 - 61, +2.1 1.1 62, +3.1 2.1 63, -1.1, -2.1, -3.1", 2, ""},
		{"the ends of all numbers", "+1048575.1000 - 20, +1048576.1000 1048575.1000 10ffff, +1048576.999 1048575.1000 d7ff, +1048576.1 1048575.1000 e000", 3, " \U0010ffff\ud7ff\ue000"},
	} {
		l := ops(t, c.l)
		s := state(t, l[:len(l)-1])
		next, at, e := s.Apply(l[len(l)-1])
		if at != c.at || e != api.OK || next.Elems.Text() != c.text {
			t.Errorf("%s: at %d, %v, %q, not at %d, %q", c.name, at, e, next.Elems.Text(), c.at, c.text)
		}
		sameState(t, next, l)
		sameState(t, s, l[:len(l)-1])
	}
}

// Each error of a state that isn't full, and where several apply the first one.
func TestP61Errors(t *testing.T) {
	l := ops(t, "+1.1 - 61, +2.1 1.1 62, +2.2 1.1 63, +3.1 2.2 64, -2.1")
	s := state(t, l)
	for _, c := range []struct {
		name string
		o    op.Op
		want api.Errno
	}{
		{"none of the Kinds, else an Insert that could be", op.Op{Kind: 2, ID: mk(9, 1), Char: 'a'}, api.ErrForm},
		{"none of the Kinds, there", op.Op{Kind: -1, ID: mk(1, 1), Char: 'a'}, api.ErrForm},
		{"none of the Kinds, far off", op.Op{Kind: math.MaxInt, ID: mk(1, 1)}, api.ErrForm},
		{"a Delete with an Anchor, of one alive", op.Op{Kind: op.Delete, ID: mk(2, 2), Anchor: mk(1, 1)}, api.ErrForm},
		{"a Delete with a Char, of one alive", op.Op{Kind: op.Delete, ID: mk(2, 2), Char: 'c'}, api.ErrForm},
		{"a Delete with a Char, of a dead one", op.Op{Kind: op.Delete, ID: mk(2, 1), Char: 'b'}, api.ErrForm},
		{"a Delete with a Char, of none", op.Op{Kind: op.Delete, ID: mk(9, 9), Char: 'b'}, api.ErrForm},
		{"the zero one", op.Op{}, api.ErrRange},
		{"a Delete of None", op.Op{Kind: op.Delete}, api.ErrRange},
		{"a Delete of an id that may not be", deleteOf(mk(1048577, 1)), api.ErrRange},
		{"a Delete of an id near one that is there", deleteOf(mk(1, 1025)), api.ErrRange},
		{"an Insert of None", insertOf(id.ID{}, id.ID{}, 'a'), api.ErrRange},
		{"an Insert of an id that may not be", insertOf(mk(2, 1001), id.ID{}, 'a'), api.ErrRange},
		{"behind an id that may not be", insertOf(mk(9, 1), mk(0, 1), 'a'), api.ErrRange},
		{"of one that is there, behind an id that may not be", insertOf(mk(2, 1), mk(1, 0), 'b'), api.ErrRange},
		{"behind itself, there", insertOf(mk(2, 1), mk(2, 1), 'b'), api.ErrOrder},
		{"behind itself, not there", insertOf(mk(9, 1), mk(9, 1), 'b'), api.ErrOrder},
		{"of one that is there, behind a greater Counter", insertOf(mk(2, 1), mk(3, 1), 'b'), api.ErrOrder},
		{"behind a Counter alike that isn't there", insertOf(mk(9, 1), mk(9, 2), 'b'), api.ErrOrder},
		{"of one that is there, with no Char", insertOf(mk(2, 1), mk(1, 1), 31), api.ErrForm},
		{"behind what isn't there, with no Char", insertOf(mk(9, 1), mk(8, 1), 0xd800), api.ErrForm},

		{"there", insertOf(mk(1, 1), id.ID{}, 'a'), api.ErrTwice},
		{"there, behind another one", insertOf(mk(3, 1), mk(2, 2), 'd'), api.ErrTwice},
		{"there, dead", insertOf(mk(2, 1), mk(1, 1), 'b'), api.ErrTwice},

		{"there with another Char", insertOf(mk(1, 1), id.ID{}, 'b'), api.ErrClash},
		{"there with another Anchor", insertOf(mk(3, 1), mk(2, 1), 'd'), api.ErrClash},
		{"there with an Anchor, told without", insertOf(mk(3, 1), id.ID{}, 'd'), api.ErrClash},
		{"there with another Char, behind another one", insertOf(mk(3, 1), mk(2, 2), 'e'), api.ErrClash},
		{"there with another Char, dead", insertOf(mk(2, 1), mk(1, 1), 'c'), api.ErrClash},
		{"there with another Anchor, dead", insertOf(mk(2, 1), id.ID{}, 'b'), api.ErrClash},
		{"there with an Anchor that isn't there", insertOf(mk(3, 1), mk(1, 9), 'd'), api.ErrClash},
		{"there with another Site of the Anchor", insertOf(mk(2, 2), mk(1, 2), 'c'), api.ErrClash},

		{"behind what isn't there", insertOf(mk(9, 1), mk(8, 1), 'a'), api.ErrNone},
		{"behind another Site", insertOf(mk(9, 1), mk(1, 2), 'a'), api.ErrNone},
		{"behind another Counter", insertOf(mk(9, 1), mk(4, 1), 'a'), api.ErrNone},
		{"a Delete of what isn't there", deleteOf(mk(9, 1)), api.ErrNone},
		{"a Delete of another Site", deleteOf(mk(1, 2)), api.ErrNone},
		{"a Delete of another Counter", deleteOf(mk(4, 1)), api.ErrNone},
		{"a Delete of a dead one", deleteOf(mk(2, 1)), api.ErrTwice},
	} {
		t.Run(c.name, func(t *testing.T) { refused(t, s, l, c.o, c.want) })
	}
}

func TestP61ErrorsAtFirst(t *testing.T) {
	refused(t, core.State{}, nil, op.Op{Kind: 2}, api.ErrForm)
	refused(t, core.State{}, nil, op.Op{}, api.ErrRange)
	refused(t, core.State{}, nil, insertOf(mk(1, 1), mk(1, 1), 'a'), api.ErrOrder)
	refused(t, core.State{}, nil, insertOf(mk(2, 1), mk(1, 1), 'a'), api.ErrNone)
	refused(t, core.State{}, nil, deleteOf(mk(1, 1)), api.ErrNone)
}

// shapes: how n Inserts may follow each other.
func shapes(n int) map[string][]op.Op {
	random := rand.New(rand.NewSource(int64(n)))
	star, chain, fans, mixed := make([]op.Op, n), make([]op.Op, n), make([]op.Op, n), make([]op.Op, n)
	anchor := func(l []op.Op, k int) id.ID {
		if k < 0 {
			return id.ID{}
		}
		return l[k].ID
	}
	for i := range n {
		char := rune(' ' + i)
		star[i] = insertOf(mk(int64(i/api.MaxSite+1), i%api.MaxSite+1), id.ID{}, char)
		a := mk(int64(i+1), i%7+1)
		chain[i] = insertOf(a, anchor(chain, i-1), char)
		fans[i] = insertOf(a, anchor(fans, i/8-1), char)
		mixed[i] = insertOf(a, anchor(mixed, random.Intn(i+1)-1), char)
	}
	return map[string][]op.Op{"a star": star, "a chain": chain, "fans": fans, "mixed": mixed}
}

// soon is an order of some operations that begins with one by chance, and goes on
// with those that can be applied as soon as they can.
func soon(l []op.Op, random *rand.Rand) []op.Op {
	l = slices.Clone(l)
	random.Shuffle(len(l), func(i, k int) { l[i], l[k] = l[k], l[i] })
	waiting := map[id.ID][]op.Op{}
	there := map[id.ID]bool{{}: true}
	var order []op.Op
	var take func(op.Op)
	take = func(o op.Op) {
		needs := o.Anchor
		if o.Kind == op.Delete {
			needs = o.ID
		}
		if !there[needs] {
			waiting[needs] = append(waiting[needs], o)
			return
		}
		order = append(order, o)
		if o.Kind == op.Insert {
			there[o.ID] = true
			for _, p := range waiting[o.ID] {
				take(p)
			}
		}
	}
	for _, o := range l {
		take(o)
	}
	return order
}

func TestP61Full(t *testing.T) {
	for name, l := range shapes(api.MaxElems + 1) {
		t.Run(name, func(t *testing.T) {
			last, more := l[api.MaxElems-1], l[api.MaxElems]
			s := state(t, l[:api.MaxElems-1])
			sameState(t, s, l[:api.MaxElems-1])
			full := apply(t, s, last)
			sameState(t, full, l[:api.MaxElems])
			fullErrors(t, full, l[:api.MaxElems], more)
			sameState(t, s, l[:api.MaxElems-1])
		})
	}
}

// fullErrors asks a full state, in which all are alive, for what it must refuse, and
// for what it mustn't.
func fullErrors(t *testing.T, full core.State, l []op.Op, more op.Op) {
	t.Helper()
	refuses := func(s core.State, o op.Op, want api.Errno) {
		t.Helper()
		if next, at, e := s.Apply(o); e != want || at != -1 || next != s {
			t.Fatalf("Apply(%v): at %d, %v, not %v", o, at, e, want)
		}
	}
	clash := l[7]
	clash.Char++
	refuses(full, more, api.ErrFull)
	refuses(full, insertOf(mk(1048576, 1), id.ID{}, 'a'), api.ErrFull)
	refuses(full, insertOf(mk(1048576, 1), l[9].ID, 'a'), api.ErrFull)
	refuses(full, insertOf(mk(1048576, 1), mk(1048575, 1), 'a'), api.ErrNone)
	refuses(full, l[7], api.ErrTwice)
	refuses(full, clash, api.ErrClash)
	refuses(full, insertOf(mk(1048576, 1), mk(1048576, 1), 'a'), api.ErrOrder)
	refuses(full, insertOf(mk(1048577, 1), id.ID{}, 'a'), api.ErrRange)
	refuses(full, insertOf(mk(1048576, 1), id.ID{}, 0), api.ErrForm)
	refuses(full, deleteOf(mk(1048576, 1)), api.ErrNone)

	// the dead stay in the row, so that there is no more room
	fewer := apply(t, full, deleteOf(l[7].ID))
	sameState(t, fewer, append(slices.Clone(l), deleteOf(l[7].ID)))
	refuses(fewer, more, api.ErrFull)
	refuses(fewer, deleteOf(l[7].ID), api.ErrTwice)
	refuses(fewer, l[7], api.ErrTwice)
	refuses(fewer, clash, api.ErrClash)
	sameState(t, full, l)
}

func TestP61FullOfDead(t *testing.T) {
	l := shapes(api.MaxElems + 1)["a star"]
	more := l[api.MaxElems]
	l = l[:api.MaxElems]
	for _, o := range l[:api.MaxElems] {
		l = append(l, deleteOf(o.ID))
	}
	s := state(t, l)
	if s.Elems.Alive() != 0 || s.Elems.Text() != "" || s.Elems.Len() != api.MaxElems {
		t.Fatalf("%d elements, %d alive", s.Elems.Len(), s.Elems.Alive())
	}
	refused(t, s, l, more, api.ErrFull)
}

func TestP61FindAndHas(t *testing.T) {
	l := ops(t, "+3.5 - 61, +4.1 3.5 62, +4.2 3.5 63, +5.1 4.2 64, -4.2, -3.5, +3.1 - 65")
	s := state(t, l)
	for i, a := range []id.ID{mk(3, 5), mk(4, 2), mk(5, 1), mk(4, 1), mk(3, 1)} {
		if at, ok := s.Find(a); at != i || !ok || !s.Has(a) {
			t.Errorf("Find(%v): %d, %v, not %d; Has: %v", a, at, ok, i, s.Has(a))
		}
	}
	for _, a := range []id.ID{
		{}, mk(3, 2), mk(3, 4), mk(3, 6), mk(4, 3), mk(4, 5), mk(5, 2), mk(5, 5), mk(2, 1), mk(6, 1), mk(1, 5), mk(1, 3),
		mk(1048576, 1000), mk(1, 1), mk(3, 0), mk(0, 5), mk(3, 1001), mk(-3, 5), mk(3, -5), mk(3, 1029), mk(2, 1029), mk(4, 5-1024),
		mk(3+1<<20, 5), mk(3+1<<32, 5), mk(3, 5+1<<32), mk(math.MinInt64, math.MinInt), mk(math.MaxInt64, math.MaxInt),
	} {
		for name, x := range map[string]core.State{"some": s, "none": {}} {
			if at, ok := x.Find(a); at != -1 || ok || x.Has(a) {
				t.Errorf("of %s: Find(%+v): %d, %v; Has: %v", name, a, at, ok, x.Has(a))
			}
		}
	}
	sameState(t, s, l)
}

// Rows and maps of a State can be put together as no operations would have them:
// what it answers then isn't promised, but that it answers.
func TestP61AnyStateEnds(t *testing.T) {
	l := ops(t, "+1.1 - 61, +2.1 1.1 62, +2.2 1.1 63, +3.1 2.2 64, -2.1")
	s := state(t, l)
	odd := ptree.Tree{}
	for i := range api.MaxElems + 2 {
		odd, _ = odd.Insert(0, ptree.Elem{ID: mk(int64(-i), i%3), Char: rune(-i)})
	}
	index, _ := s.Index.Put(mk(9, 9), pmap.Entry{Anchor: mk(-1, 5000), Char: -1})
	states := []core.State{{}, {Elems: s.Elems}, {Index: s.Index}, {Elems: odd, Index: s.Index}, {Elems: s.Elems, Index: index}, {Elems: odd, Index: index}}
	more := []op.Op{{}, deleteOf(mk(9, 9)), insertOf(mk(9, 9), mk(1, 1), 'a'), insertOf(mk(10, 1), mk(9, 9), 'a'), insertOf(mk(9, 1), id.ID{}, 'a')}
	for _, x := range states {
		for _, o := range append(slices.Clone(l), more...) {
			x.Apply(o)
			x.Find(o.ID)
			x.Has(o.ID)
		}
	}
}

// Whatever is applied to a state, in whatever order: it stays as it was.
func TestP61AStateStaysAsItWas(t *testing.T) {
	random := rand.New(rand.NewSource(6))
	states, applied := []core.State{{}}, [][]op.Op{nil}
	for range 2000 {
		k := random.Intn(len(states))
		l := applied[k]
		o := anyOp(random)
		next, _, e := states[k].Apply(o)
		if e != api.OK {
			continue
		}
		states = append(states, next)
		applied = append(applied, append(slices.Clone(l), o))
	}
	if len(states) < 100 {
		t.Fatalf("%d states", len(states))
	}
	for k, s := range states {
		sameState(t, s, applied[k])
	}
}

// anyOp is an operation that may be, of few ids, so that some meet.
func anyOp(random *rand.Rand) op.Op {
	a := mk(int64(random.Intn(12)+1), random.Intn(3)+1)
	if random.Intn(4) == 0 {
		return deleteOf(a)
	}
	anchor := mk(random.Int63n(a.Counter), random.Intn(3)+1)
	if anchor.Counter == 0 {
		anchor = id.ID{}
	}
	return insertOf(a, anchor, 'a'+rune(random.Intn(2)))
}

// Behind each operation of a long row of any of them, the state is that of those
// that were applied, and the others are refused as the chapter says.
func TestP61AnyOperations(t *testing.T) {
	for seed := range int64(40) {
		random := rand.New(rand.NewSource(seed))
		var s core.State
		var l []op.Op
		for range 120 {
			o := anyOp(random)
			if want := wanted(l, o); want != api.OK {
				refused(t, s, l, o, want)
				continue
			}
			s = apply(t, s, o)
			l = append(l, o)
			sameState(t, s, l)
		}
	}
}

// everyOrder applies some operations in each order in which they can be. Behind each
// of them the state must be that of the list of those that were applied; one that
// comes ahead of what it needs must be refused.
type everyOrder struct {
	t      *testing.T
	l      []op.Op
	rows   map[uint][]ptree.Elem // by which of l were applied
	orders int
}

func (x *everyOrder) some(applied uint) []op.Op {
	var l []op.Op
	for i, o := range x.l {
		if applied>>i&1 == 1 {
			l = append(l, o)
		}
	}
	return l
}

func (x *everyOrder) row(applied uint) []ptree.Elem {
	if x.rows[applied] == nil {
		x.rows[applied] = list(x.some(applied))
	}
	return x.rows[applied]
}

func (x *everyOrder) from(s core.State, applied uint) {
	sameRow(x.t, s, x.row(applied))
	if applied == 1<<len(x.l)-1 {
		x.orders++
		sameState(x.t, s, x.l)
		return
	}
	for i, o := range x.l {
		if applied>>i&1 == 1 {
			continue
		}
		next, at, e := s.Apply(o)
		if e != wanted(x.some(applied), o) {
			x.t.Fatalf("Apply(%v) behind %v: %v", o, x.some(applied), e)
		}
		if e != api.OK {
			continue
		}
		row := x.row(applied | 1<<i)
		if at < 0 || at >= len(row) || row[at].ID != o.ID {
			x.t.Fatalf("Apply(%v) behind %v: at %d", o, x.some(applied), at)
		}
		x.from(next, applied|1<<i)
	}
	sameRow(x.t, s, x.row(applied))
}

// forests: all ways in which Inserts of some ids, rising, can follow each other.
func forests(ids []id.ID) [][]op.Op {
	all := [][]op.Op{nil}
	for i, a := range ids {
		var next [][]op.Op
		for _, l := range all {
			next = append(next, append(slices.Clone(l), insertOf(a, id.ID{}, 'a'+rune(i))))
			for _, b := range ids[:i] {
				if b.Counter < a.Counter {
					next = append(next, append(slices.Clone(l), insertOf(a, b, 'a'+rune(i))))
				}
			}
		}
		all = next
	}
	return all
}

func TestP62EveryOrderOfInserts(t *testing.T) {
	orders := 0
	for _, l := range forests([]id.ID{mk(1, 1), mk(1, 2), mk(2, 1), mk(2, 2), mk(3, 1), mk(3, 2)}) {
		x := everyOrder{t: t, l: l, rows: map[uint][]ptree.Elem{}}
		x.from(core.State{}, 0)
		orders += x.orders
	}
	if orders < 225 {
		t.Errorf("%d orders", orders)
	}
}

func TestP62EveryOrderWithDeletes(t *testing.T) {
	ids := []id.ID{mk(1, 1), mk(1, 2), mk(2, 1), mk(3, 1)}
	for _, l := range forests(ids) {
		for i, a := range ids {
			for _, b := range ids[:i] {
				x := everyOrder{t: t, l: append(slices.Clone(l), deleteOf(a), deleteOf(b)), rows: map[uint][]ptree.Elem{}}
				x.from(core.State{}, 0)
				if x.orders == 0 {
					t.Fatalf("no order of %v", x.l)
				}
			}
		}
	}
}

// Replicas that were told the same, in unlike orders, and many things twice, are
// alike.
func TestP62ManyOrdersOfMany(t *testing.T) {
	for seed := range int64(20) {
		random := rand.New(rand.NewSource(seed))
		var l []op.Op
		for range 400 {
			if o := anyOp(random); wanted(l, o) == api.OK {
				l = append(l, o)
			}
		}
		row := list(l)
		for range 20 {
			order := soon(l, random)
			if len(order) != len(l) {
				t.Fatalf("%d of %d", len(order), len(l))
			}
			s := state(t, order)
			sameRow(t, s, row)
			for _, o := range order {
				if next, at, e := s.Apply(o); e != api.ErrTwice || at != -1 || next != s {
					t.Fatalf("Apply(%v) twice: at %d, %v", o, at, e)
				}
			}
			sameState(t, s, l)
		}
	}
}

func TestP62OrdersOfAsManyAsMayBe(t *testing.T) {
	random := rand.New(rand.NewSource(62))
	for name, l := range shapes(api.MaxElems) {
		t.Run(name, func(t *testing.T) {
			for i := range api.MaxElems / 3 {
				l = append(l, deleteOf(l[i*3].ID))
			}
			row := list(l)
			for range 3 {
				var s core.State
				for _, o := range soon(l, random) {
					next, at, e := s.Apply(o)
					if got, ok := next.Elems.At(at); e != api.OK || !ok || got.ID != o.ID || got.Dead != (o.Kind == op.Delete) {
						t.Fatalf("Apply(%v): at %d, %v", o, at, e)
					}
					s = next
				}
				sameRow(t, s, row)
			}
		})
	}
}
