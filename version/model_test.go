package version_test

import (
	"slices"
	"strconv"
	"strings"
	"testing"

	"selvedge/api"
	"selvedge/id"
	"selvedge/op"
	"selvedge/tally"
	"selvedge/version"
)

func mk(counter int64, site int) id.ID { return id.ID{Counter: counter, Site: site} }

func insertOf(a, anchor id.ID, char rune) op.Op {
	return op.Op{Kind: op.Insert, ID: a, Anchor: anchor, Char: char}
}

func deleteOf(a id.ID) op.Op { return op.Op{Kind: op.Delete, ID: a} }

// ops are the operations of texts, with a comma between them.
func ops(t *testing.T, s string) []op.Op {
	t.Helper()
	var l []op.Op
	if s == "" {
		return l
	}
	for _, x := range strings.Split(s, ", ") {
		o, e := op.Parse(x)
		if e != api.OK {
			t.Fatalf("Parse(%q): %v", x, e)
		}
		l = append(l, o)
	}
	return l
}

// texts are operations as ops reads them.
func texts(l []op.Op) string {
	var s []string
	for _, o := range l {
		s = append(s, o.String())
	}
	return strings.Join(s, ", ")
}

// story is what changes tell: of each its Seq, + or -, At, the ID, and the Char.
func story(l []version.Change) string {
	var s []string
	for _, c := range l {
		sign := "+"
		if c.Del {
			sign = "-"
		}
		s = append(s, strconv.FormatInt(c.Seq, 10)+" "+sign+strconv.Itoa(c.At)+" "+c.ID.String()+" "+string(c.Char))
	}
	return strings.Join(s, ", ")
}

// model is what a version must have, told as the chapter's head tells it: the
// operations that were taken in, and those that wait. No call writes to its lists.
type model struct {
	applied, waiting []op.Op
	seq              int64
}

// elem is an element of a model.
type elem struct {
	id   id.ID
	char rune
	dead bool
}

// falling is the order in which followers stand.
func falling(a, b id.ID) int {
	if a.Less(b) {
		return 1
	}
	return -1
}

// row is the list of the operations that were taken in.
func (m model) row() []elem {
	followers := map[id.ID][]id.ID{}
	chars := map[id.ID]rune{}
	dead := map[id.ID]bool{}
	for _, o := range m.applied {
		if o.Kind == op.Delete {
			dead[o.ID] = true
			continue
		}
		followers[o.Anchor] = append(followers[o.Anchor], o.ID)
		chars[o.ID] = o.Char
	}
	var row []elem
	var follow func(id.ID)
	follow = func(a id.ID) {
		for _, b := range slices.SortedFunc(slices.Values(followers[a]), falling) {
			row = append(row, elem{b, chars[b], dead[b]})
			follow(b)
		}
	}
	follow(id.ID{})
	return row
}

// alive are the elements that are alive, in order.
func (m model) alive() []elem {
	return slices.DeleteFunc(m.row(), func(x elem) bool { return x.dead })
}

// inserts is how many elements there are.
func (m model) inserts() int {
	n := 0
	for _, o := range m.applied {
		if o.Kind == op.Insert {
			n++
		}
	}
	return n
}

// refuses is the error of an operation, by the elements there are.
func (m model) refuses(o op.Op) api.Errno {
	if e := o.Check(); e != api.OK {
		return e
	}
	there := func(a id.ID) int {
		return slices.IndexFunc(m.applied, func(b op.Op) bool { return b.Kind == op.Insert && b.ID == a })
	}
	i := there(o.ID)
	switch {
	case o.Kind == op.Delete && i < 0:
		return api.ErrNone
	case o.Kind == op.Delete && slices.Contains(m.applied, o):
		return api.ErrTwice
	case o.Kind == op.Delete:
		return api.OK
	case i >= 0 && m.applied[i] == o:
		return api.ErrTwice
	case i >= 0:
		return api.ErrClash
	case o.Anchor != id.ID{} && there(o.Anchor) < 0:
		return api.ErrNone
	case m.inserts() >= 4096:
		return api.ErrFull
	}
	return api.OK
}

// keepsOut is the error of an operation that would wait, by those that wait.
func (m model) keepsOut(o op.Op) api.Errno {
	if slices.Contains(m.waiting, o) {
		return api.ErrTwice
	}
	for _, w := range m.waiting {
		if o.Kind == op.Insert && w.Kind == op.Insert && w.ID == o.ID {
			return api.ErrClash
		}
	}
	if len(m.waiting) >= 16 {
		return api.ErrFull
	}
	return api.OK
}

// change takes an operation in that can be applied.
func (m model) change(o op.Op) (model, version.Change) {
	m.applied = append(slices.Clone(m.applied), o)
	m.seq++
	c := version.Change{Seq: m.seq, ID: o.ID, Del: o.Kind == op.Delete}
	for _, x := range m.row() {
		if x.id == o.ID {
			c.Char = x.char
			return m, c
		}
		if !x.dead {
			c.At++
		}
	}
	panic("it isn't in the row: " + o.String())
}

// take takes an operation in that can be applied, and what it lets in.
func (m model) take(o op.Op) (model, []version.Change) {
	m, c := m.change(o)
	l := []version.Change{c}
	for {
		i := slices.IndexFunc(m.waiting, func(w op.Op) bool { return m.refuses(w) != api.ErrNone })
		if i < 0 {
			return m, l
		}
		w := m.waiting[i]
		m.waiting = slices.Delete(slices.Clone(m.waiting), i, i+1)
		if m.refuses(w) == api.OK {
			m, c = m.change(w)
			l = append(l, c)
		}
	}
}

func (m model) remote(o op.Op) (model, []version.Change, api.Errno) {
	e := m.refuses(o)
	switch {
	case e == api.OK:
		m, l := m.take(o)
		return m, l, e
	case e != api.ErrNone:
		return m, nil, e
	}
	if e = m.keepsOut(o); e == api.OK {
		m.waiting = append(slices.Clone(m.waiting), o)
	}
	return m, nil, e
}

// next is the next counter.
func (m model) next() int64 {
	var top int64
	for _, o := range append(slices.Clone(m.applied), m.waiting...) {
		if o.ID.Counter > top {
			top = o.ID.Counter
		}
	}
	return top + 1
}

func (m model) insert(site, at int, char rune) (model, op.Op, []version.Change, api.Errno) {
	alive := m.alive()
	switch {
	case site < 1 || site > 1000 || at < 0 || at > len(alive):
		return m, op.Op{}, nil, api.ErrRange
	case char < 32 || char >= 0xd800 && char <= 0xdfff || char > 0x10ffff:
		return m, op.Op{}, nil, api.ErrForm
	case m.inserts() >= 4096 || m.next() > 1048576:
		return m, op.Op{}, nil, api.ErrFull
	}
	o := insertOf(mk(m.next(), site), id.ID{}, char)
	if at > 0 {
		o.Anchor = alive[at-1].id
	}
	m, l := m.take(o)
	return m, o, l, api.OK
}

func (m model) delete(at int) (model, op.Op, []version.Change, api.Errno) {
	alive := m.alive()
	if at < 0 || at >= len(alive) {
		return m, op.Op{}, nil, api.ErrRange
	}
	o := deleteOf(alive[at].id)
	m, l := m.take(o)
	return m, o, l, api.OK
}

// tally is the sums of the elements' ids, reckoned with whole numbers.
func (m model) tally() tally.Tally {
	var n, c, s, square, twice int64
	for _, o := range m.applied {
		if o.Kind == op.Insert {
			a, b := o.ID.Counter, int64(o.ID.Site)
			n, c, s, square, twice = n+1, c+a, s+b, square+a*a-b*b, twice+2*a*b
		}
	}
	return tally.Tally{N: int(n), Sum: complex(float64(c), float64(s)), Mix: complex(float64(square), float64(twice))}
}

// same holds all that a version tells against what it must have.
func same(t *testing.T, v version.Version, m model) {
	t.Helper()
	row := m.row()
	var chars []rune
	for _, x := range row {
		if n, ok := v.Before(x.id); n != len(chars) || !ok {
			t.Fatalf("Before(%v): %d, %v, not %d", x.id, n, ok, len(chars))
		}
		if x.dead {
			continue
		}
		if a, ok := v.Named(len(chars)); a != x.id || !ok {
			t.Fatalf("Named(%d): %v, %v, not %v", len(chars), a, ok, x.id)
		}
		chars = append(chars, x.char)
	}
	if a, ok := v.Named(len(chars)); a != (id.ID{}) || ok {
		t.Fatalf("Named(%d): %v, %v", len(chars), a, ok)
	}
	if v.Text() != string(chars) || v.Len() != len(chars) {
		t.Fatalf("Text: %q, Len: %d, not %q, %d", v.Text(), v.Len(), string(chars), len(chars))
	}
	if v.Seq() != m.seq {
		t.Fatalf("Seq: %d, not %d", v.Seq(), m.seq)
	}
	if l := v.Waiting(); !slices.Equal(l, m.waiting) {
		t.Fatalf("Waiting: %s, not %s", texts(l), texts(m.waiting))
	}
	if v.Tally() != m.tally() {
		t.Fatalf("Tally: %v, not %v", v.Tally(), m.tally())
	}
}

// pair is a version, and what it must have.
type pair struct {
	v version.Version
	m model
}

// answered holds a call's answer against what it must be, and that the pair stayed
// as it was; behind an error the other version must be as it was, too.
func (p pair) answered(t *testing.T, call string, next pair, o, wantO op.Op, l, wantL []version.Change, e, wantE api.Errno) {
	t.Helper()
	if e != wantE || o != wantO || !slices.Equal(l, wantL) {
		t.Fatalf("%s: %+v; %s; %v, not %+v; %s; %v", call, o, story(l), e, wantO, story(wantL), wantE)
	}
	same(t, next.v, next.m)
	same(t, p.v, p.m)
}

// remote has both take in an operation of another replica.
func (p pair) remote(t *testing.T, o op.Op) (pair, []version.Change, api.Errno) {
	t.Helper()
	v, l, e := p.v.Remote(o)
	m, wantL, wantE := p.m.remote(o)
	p.answered(t, "Remote("+o.String()+")", pair{v, m}, op.Op{}, op.Op{}, l, wantL, e, wantE)
	return pair{v, m}, l, e
}

// insert has both insert.
func (p pair) insert(t *testing.T, site, at int, char rune) (pair, op.Op, []version.Change, api.Errno) {
	t.Helper()
	v, o, l, e := p.v.Insert(site, at, char)
	m, wantO, wantL, wantE := p.m.insert(site, at, char)
	call := "Insert(" + strconv.Itoa(site) + ", " + strconv.Itoa(at) + ", " + strconv.Itoa(int(char)) + ")"
	p.answered(t, call, pair{v, m}, o, wantO, l, wantL, e, wantE)
	return pair{v, m}, o, l, e
}

// delete has both delete.
func (p pair) delete(t *testing.T, at int) (pair, op.Op, []version.Change, api.Errno) {
	t.Helper()
	v, o, l, e := p.v.Delete(at)
	m, wantO, wantL, wantE := p.m.delete(at)
	p.answered(t, "Delete("+strconv.Itoa(at)+")", pair{v, m}, o, wantO, l, wantL, e, wantE)
	return pair{v, m}, o, l, e
}

// behind is the pair behind operations of other replicas, none of which is refused.
func behind(t *testing.T, l []op.Op) pair {
	t.Helper()
	var p pair
	for _, o := range l {
		next, _, e := p.remote(t, o)
		if e != api.OK {
			t.Fatalf("Remote(%v): %v", o, e)
		}
		p = next
	}
	return p
}
