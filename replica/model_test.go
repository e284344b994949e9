package replica_test

import (
	"math"
	"slices"
	"strconv"
	"strings"
	"testing"

	"selvedge/api"
	"selvedge/id"
	"selvedge/op"
	"selvedge/replica"
	"selvedge/version"
)

func mk(counter int64, site int) id.ID { return id.ID{Counter: counter, Site: site} }

func insertOf(a, anchor id.ID, char rune) op.Op {
	return op.Op{Kind: op.Insert, ID: a, Anchor: anchor, Char: char}
}

func deleteOf(a id.ID) op.Op { return op.Op{Kind: op.Delete, ID: a} }

// elem is an element of a model's row.
type elem struct {
	id, anchor id.ID
	char       rune
	dead       bool
}

// model is what a replica must have, reckoned without versions and cursors. The
// zero one is that of the zero replica. No call writes to its lists.
type model struct {
	site    int
	open    bool
	row     []elem
	waiting []op.Op
	seq     int
}

// place is where an id's element stands in the row; -1 of what isn't there.
func (m model) place(a id.ID) int {
	return slices.IndexFunc(m.row, func(x elem) bool { return x.id == a })
}

// ahead are the elements alive ahead of a place in the row.
func (m model) ahead(place int) []elem {
	var l []elem
	for _, x := range m.row[:place] {
		if !x.dead {
			l = append(l, x)
		}
	}
	return l
}

// alive are all elements alive.
func (m model) alive() []elem { return m.ahead(len(m.row)) }

// text are the characters of those alive.
func (m model) text() string {
	var b strings.Builder
	for _, x := range m.alive() {
		b.WriteRune(x.char)
	}
	return b.String()
}

// idText is an id's text.
func idText(a id.ID) string {
	if a == (id.ID{}) {
		return "-"
	}
	return strconv.FormatInt(a.Counter, 10) + "." + strconv.Itoa(a.Site)
}

// opText is the text of an operation that may be.
func opText(o op.Op) string {
	if o.Kind == op.Delete {
		return "-" + idText(o.ID)
	}
	return "+" + idText(o.ID) + " " + idText(o.Anchor) + " " + strconv.FormatInt(int64(o.Char), 16)
}

// tally is the text of the sums of the elements' ids.
func (m model) tally() string {
	var n, c, s, square, twice int64
	for _, x := range m.row {
		a, b := x.id.Counter, int64(x.id.Site)
		n, c, s, square, twice = n+1, c+a, s+b, square+a*a-b*b, twice+2*a*b
	}
	var words []string
	for _, k := range []int64{n, c, s, square, twice} {
		words = append(words, strconv.FormatInt(k, 10))
	}
	return strings.Join(words, " ")
}

// refuses is the error of an operation, by the elements there are.
func (m model) refuses(o op.Op) api.Errno {
	if e := o.Check(); e != api.OK {
		return e
	}
	i := m.place(o.ID)
	switch {
	case i < 0 && o.Kind == op.Delete:
		return api.ErrNone
	case i < 0 && o.Anchor != (id.ID{}) && m.place(o.Anchor) < 0:
		return api.ErrNone
	case i < 0 && len(m.row) >= 4096:
		return api.ErrFull
	case i < 0:
		return api.OK
	}
	x := m.row[i]
	switch {
	case o.Kind == op.Delete && x.dead:
		return api.ErrTwice
	case o.Kind == op.Delete:
		return api.OK
	case x.anchor == o.Anchor && x.char == o.Char:
		return api.ErrTwice
	}
	return api.ErrClash
}

// keepsOut is the error of an operation that would wait, by those that wait.
func (m model) keepsOut(o op.Op) api.Errno {
	clash := func(w op.Op) bool { return o.Kind == op.Insert && w.Kind == op.Insert && w.ID == o.ID }
	switch {
	case slices.Contains(m.waiting, o):
		return api.ErrTwice
	case slices.ContainsFunc(m.waiting, clash):
		return api.ErrClash
	case len(m.waiting) >= 16:
		return api.ErrFull
	}
	return api.OK
}

// change is the model behind an operation that can be applied, and its change.
func (m model) change(o op.Op) (model, version.Change) {
	m.row = slices.Clone(m.row)
	at := m.place(o.ID)
	if o.Kind == op.Delete {
		m.row[at].dead = true
	} else {
		// Of None -1, so that it is ahead of all.
		at = m.place(o.Anchor) + 1
		for at < len(m.row) && o.ID.Less(m.row[at].id) {
			at++
		}
		m.row = slices.Insert(m.row, at, elem{id: o.ID, anchor: o.Anchor, char: o.Char})
	}
	m.seq++
	return m, version.Change{
		Seq: int64(m.seq), At: len(m.ahead(at)), ID: o.ID, Char: m.row[at].char, Del: o.Kind == op.Delete,
	}
}

// take is the model behind an operation that can be applied, and what it lets in.
func (m model) take(o op.Op) (model, []version.Change) {
	m, c := m.change(o)
	l := []version.Change{c}
	for {
		i := slices.IndexFunc(m.waiting, func(w op.Op) bool { return m.refuses(w) != api.ErrNone })
		if i < 0 {
			return m, l
		}
		w := m.waiting[i]
		m.waiting = slices.Delete(slices.Clone(m.waiting), i, i+1)
		if m.refuses(w) == api.OK {
			m, c = m.change(w)
			l = append(l, c)
		}
	}
}

// fails is what a call comes to that has an error.
func (m model) fails(e api.Errno) (model, replica.Result, []version.Change) {
	return m, replica.Result{Err: e}, nil
}

// own is what a write of this replica comes to.
func (m model) own(o op.Op) (model, replica.Result, []version.Change) {
	m, l := m.take(o)
	return m, replica.Result{N: m.seq, Text: opText(o)}, l
}

func (m model) insert(at int, char rune) (model, replica.Result, []version.Change) {
	alive := m.alive()
	counter := int64(1)
	for _, x := range m.row {
		counter = max(counter, x.id.Counter+1)
	}
	for _, w := range m.waiting {
		counter = max(counter, w.ID.Counter+1)
	}
	switch {
	case at < 0 || at > len(alive):
		return m.fails(api.ErrRange)
	case char < 32 || char >= 0xd800 && char <= 0xdfff || char > 0x10ffff:
		return m.fails(api.ErrForm)
	case len(m.row) >= 4096 || counter > 1048576:
		return m.fails(api.ErrFull)
	}
	var anchor id.ID
	if at > 0 {
		anchor = alive[at-1].id
	}
	return m.own(insertOf(mk(counter, m.site), anchor, char))
}

func (m model) apply(o op.Op) (model, replica.Result, []version.Change) {
	e := m.refuses(o)
	if e == api.OK {
		m, l := m.take(o)
		return m, replica.Result{N: len(l)}, l
	}
	if e == api.ErrNone {
		e = m.keepsOut(o)
	}
	if e == api.OK {
		m.waiting = append(slices.Clone(m.waiting), o)
	}
	return m, replica.Result{Err: e}, nil
}

// does is what a call must come to.
func (m model) does(c replica.Call) (model, replica.Result, []version.Change) {
	alive := m.alive()
	switch {
	case c.Kind < 0 || c.Kind > 8:
		return m.fails(api.ErrForm)
	case !m.open:
		return m.fails(api.ErrClosed)
	case c.Kind == 0:
		return m.insert(c.At, c.Char)
	case c.Kind == 1 && (c.At < 0 || c.At >= len(alive)):
		return m.fails(api.ErrRange)
	case c.Kind == 1:
		return m.own(deleteOf(alive[c.At].id))
	case c.Kind == 2:
		return m.apply(c.Op)
	case c.Kind == 8:
		m.open = false
		return m, replica.Result{}, nil
	}
	x := m.look(c, alive)
	return m, x, nil
}

// look is what a call must answer that only looks.
func (m model) look(c replica.Call, alive []elem) replica.Result {
	switch {
	case c.Kind == 3:
		return replica.Result{Text: m.text()}
	case c.Kind == 4:
		return replica.Result{N: len(alive)}
	case c.Kind == 5 && (c.At < 0 || c.At > len(alive)):
		return replica.Result{Err: api.ErrRange}
	case c.Kind == 5 && c.At == len(alive):
		return replica.Result{Text: "-"}
	case c.Kind == 5:
		return replica.Result{Text: idText(alive[c.At].id)}
	case c.Kind == 7:
		return replica.Result{N: m.seq, Text: m.tally()}
	case c.Anchor == id.ID{}:
		return replica.Result{N: len(alive)}
	case m.place(c.Anchor) < 0:
		return replica.Result{Err: api.ErrNone}
	}
	return replica.Result{N: len(m.ahead(m.place(c.Anchor)))}
}

// pair is a replica, and what it must have.
type pair struct {
	r replica.Replica
	m model
}

// begun is the pair of a new replica.
func begun(t *testing.T, site int) pair {
	t.Helper()
	r, e := replica.New(site)
	if e != api.OK {
		t.Fatalf("New(%d): %v", site, e)
	}
	return pair{r, model{site: site, open: true}}
}

// does has both do a call, by each of the three ways there are, and holds all that is
// answered against what must be, and that the pair stayed as it was.
func (p pair) does(t *testing.T, c replica.Call) (pair, replica.Result, []version.Change) {
	t.Helper()
	m, want, wantL := p.m.does(c)
	changed, x, l := p.r.Changes(c)
	if x != want || !slices.Equal(l, wantL) {
		t.Fatalf("Changes(%+v): %+v, %v, not %+v, %v", c, x, l, want, wantL)
	}
	done, x := p.r.Do(c)
	if x != want {
		t.Fatalf("Do(%+v): %+v, not %+v", c, x, want)
	}
	if x := p.r.Look(c); x != want {
		t.Fatalf("Look(%+v): %+v, not %+v", c, x, want)
	}
	same(t, changed, m)
	same(t, done, m)
	same(t, p.r, p.m)
	return pair{done, m}, want, wantL
}

// same holds all that a replica tells of itself against what it must have.
func same(t *testing.T, r replica.Replica, m model) {
	t.Helper()
	if r.Closed() == m.open {
		t.Fatalf("Closed: %v", r.Closed())
	}
	v := r.Version()
	if v.Text() != m.text() || v.Len() != len(m.alive()) || v.Seq() != int64(m.seq) {
		t.Fatalf("the version: %q, %d, %d, not %q, %d, %d", v.Text(), v.Len(), v.Seq(), m.text(), len(m.alive()), m.seq)
	}
	if v.Tally().String() != m.tally() || !slices.Equal(v.Waiting(), m.waiting) {
		t.Fatalf("the version: %v, %v, not %s, %v", v.Tally(), v.Waiting(), m.tally(), m.waiting)
	}
	alive := 0
	for _, x := range m.row {
		if n, ok := v.Before(x.id); n != alive || !ok {
			t.Fatalf("the version: Before(%v): %d, %v, not %d", x.id, n, ok, alive)
		}
		if x.dead {
			continue
		}
		if a, ok := v.Named(alive); a != x.id || !ok {
			t.Fatalf("the version: Named(%d): %v, %v, not %v", alive, a, ok, x.id)
		}
		alive++
	}
}

// calls are calls of each kind, and of none, that fit what a model has, and that don't.
func (m model) calls() []replica.Call {
	var l []replica.Call
	n := len(m.alive())
	for _, at := range []int{0, 1, n - 1, n, n + 1, -1, math.MaxInt, math.MinInt} {
		l = append(l, replica.Call{Kind: 0, At: at, Char: 'i'}, replica.Call{Kind: 1, At: at}, replica.Call{Kind: 5, At: at})
	}
	for _, char := range []rune{0, 31, 32, 0xd7ff, 0xd800, 0xdfff, 0xe000, 0x10ffff, 0x110000, -1, math.MaxInt32, math.MinInt32} {
		l = append(l, replica.Call{Kind: 0, At: n / 2, Char: char})
	}
	ids := []id.ID{{}, mk(1, 1), mk(9, 9), mk(1048576, 1000), mk(0, 1), mk(1, 0), mk(1048577, 1), mk(1, 1001), mk(math.MinInt64, math.MinInt)}
	for _, x := range m.row {
		ids = append(ids, x.id)
	}
	for _, w := range m.waiting {
		ids = append(ids, w.ID)
		l = append(l, replica.Call{Kind: 2, Op: w})
	}
	for _, a := range ids {
		l = append(l, replica.Call{Kind: 2, Op: deleteOf(a)}, replica.Call{Kind: 6, Anchor: a})
		l = append(l, replica.Call{Kind: 2, Op: insertOf(mk(1000, 7), a, 'o')}, replica.Call{Kind: 2, Op: insertOf(a, id.ID{}, 'o')})
	}
	for _, kind := range []replica.Kind{3, 4, 7, 8, -1, 9, math.MaxInt, math.MinInt} {
		l = append(l, replica.Call{Kind: kind})
	}
	return l
}

// holds holds all that a replica answers to each of these calls against its model,
// and what it leads to.
func (p pair) holds(t *testing.T) {
	t.Helper()
	for _, c := range p.m.calls() {
		p.does(t, c)
	}
}
