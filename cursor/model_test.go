package cursor_test

import (
	"math"
	"math/rand"
	"slices"
	"testing"

	"selvedge/api"
	"selvedge/cursor"
	"selvedge/id"
	"selvedge/op"
	"selvedge/version"
)

// elem is an element of a row.
type elem struct {
	id   id.ID
	dead bool
}

// pair is a version, and the row that it must have. No call writes to a row.
type pair struct {
	v   version.Version
	row []elem
}

// place is where an id's element stands in the row; the row's length of None, and -1
// of what isn't there.
func (p pair) place(a id.ID) int {
	if a == (id.ID{}) {
		return len(p.row)
	}
	return slices.IndexFunc(p.row, func(x elem) bool { return x.id == a })
}

// ahead are the ids of those alive ahead of a place in the row.
func (p pair) ahead(place int) []id.ID {
	var l []id.ID
	for _, x := range p.row[:place] {
		if !x.dead {
			l = append(l, x.id)
		}
	}
	return l
}

// all are the ids of those alive.
func (p pair) all() []id.ID { return p.ahead(len(p.row)) }

// insert is the pair behind an Insert, which stands behind its Anchor, and behind
// those with greater ids that follow.
func (p pair) insert(t *testing.T, a, anchor id.ID) pair {
	t.Helper()
	v, l, e := p.v.Remote(op.Op{Kind: op.Insert, ID: a, Anchor: anchor, Char: 'x'})
	if e != api.OK || len(l) != 1 {
		t.Fatalf("insert of %v behind %v: %v, %v", a, anchor, l, e)
	}
	at := 0
	if anchor != (id.ID{}) {
		at = 1 + p.place(anchor)
	}
	for at < len(p.row) && a.Less(p.row[at].id) {
		at++
	}
	return pair{v, slices.Insert(slices.Clone(p.row), at, elem{id: a})}
}

// remove is the pair behind a Delete.
func (p pair) remove(t *testing.T, a id.ID) pair {
	t.Helper()
	v, l, e := p.v.Remote(op.Op{Kind: op.Delete, ID: a})
	if e != api.OK || len(l) != 1 {
		t.Fatalf("delete of %v: %v, %v", a, l, e)
	}
	row := slices.Clone(p.row)
	row[p.place(a)].dead = true
	return pair{v, row}
}

// cursors are those of each element of the row, dead or alive, and the one at the end.
func (p pair) cursors() []cursor.Cursor {
	l := []cursor.Cursor{{}}
	for _, x := range p.row {
		l = append(l, cursor.Cursor{Anchor: x.id})
	}
	return l
}

// at holds the cursor of a place against the row.
func (p pair) at(t *testing.T, place int) {
	t.Helper()
	want, wantE := p.want(place, api.OK)
	if c, e := cursor.At(p.v, place); c != want || e != wantE {
		t.Fatalf("At %d of %v: %v, %v, not %v, %v", place, p.row, c, e, want, wantE)
	}
}

// want is the cursor that must be at a place, if nothing is wrong ahead of that.
func (p pair) want(place int, e api.Errno) (cursor.Cursor, api.Errno) {
	alive := p.all()
	switch {
	case e != api.OK:
		return cursor.Cursor{}, e
	case place < 0 || place > len(alive):
		return cursor.Cursor{}, api.ErrRange
	case place == len(alive):
		return cursor.Cursor{}, api.OK
	}
	return cursor.Cursor{Anchor: alive[place]}, api.OK
}

// holds holds all that a cursor answers against the row.
func (p pair) holds(t *testing.T, c cursor.Cursor) {
	t.Helper()
	at, wantE, alive := 0, api.ErrNone, false
	if place := p.place(c.Anchor); place >= 0 {
		at, wantE = len(p.ahead(place)), api.OK
		alive = place == len(p.row) || !p.row[place].dead
	}
	if got, e := c.Resolve(p.v); got != at || e != wantE {
		t.Fatalf("%v of %v: resolved to %d, %v, not %d, %v", c, p.row, got, e, at, wantE)
	}
	if got := c.Alive(p.v); got != alive {
		t.Fatalf("%v of %v: alive %v", c, p.row, got)
	}
	for by := -len(p.row) - 2; by <= len(p.row)+2; by++ {
		p.moves(t, c, by, at+by, wantE)
	}
	for i := range 3 {
		p.moves(t, c, math.MinInt+i, -1, wantE)
		p.moves(t, c, math.MaxInt-i, math.MaxInt, wantE)
		p.moves(t, c, math.MaxInt-at-i, math.MaxInt, wantE)
	}
}

// moves holds a Move that leads to a place against the row.
func (p pair) moves(t *testing.T, c cursor.Cursor, by, to int, e api.Errno) {
	t.Helper()
	want, wantE := p.want(to, e)
	if got, e := c.Move(p.v, by); got != want || e != wantE {
		t.Fatalf("%v of %v by %d: %v, %v, not %v, %v", c, p.row, by, got, e, want, wantE)
	}
}

// rows are pairs of all small lengths, each followed behind the last one or ahead of
// all, with any of their elements dead.
func rows(t *testing.T, most int) []pair {
	t.Helper()
	var l []pair
	for n := range most + 1 {
		for dead := range 1 << n {
			for _, chain := range []bool{true, false} {
				var p pair
				for i := range n {
					var anchor id.ID
					if chain && i > 0 {
						anchor = mk(int64(10*i), 2)
					}
					p = p.insert(t, mk(int64(10*i+10), 2), anchor)
				}
				for i := range n {
					if dead>>i&1 == 1 {
						p = p.remove(t, mk(int64(10*i+10), 2))
					}
				}
				l = append(l, p)
			}
		}
	}
	return l
}

func TestP111EverySmallRow(t *testing.T) {
	for _, p := range rows(t, 5) {
		for at := -3; at <= len(p.row)+3; at++ {
			p.at(t, at)
		}
		p.at(t, math.MinInt)
		p.at(t, math.MaxInt)
		for _, c := range append(p.cursors(), wrong()...) {
			p.holds(t, c)
		}
		for _, a := range []id.ID{mk(1, 1), mk(10, 1), mk(10, 3), mk(11, 2), mk(60, 2)} {
			p.holds(t, cursor.Cursor{Anchor: a})
		}
	}
}

// shifts are how far a change moves the cursors that were there ahead of it, as the
// promise tells it, by the place of what came or died in the row behind the change.
func shifts(p, q pair, changed id.ID, came bool) map[cursor.Cursor]int {
	m := map[cursor.Cursor]int{}
	for _, c := range p.cursors() {
		switch {
		case q.place(changed) >= q.place(c.Anchor):
			m[c] = 0
		case came:
			m[c] = 1
		default:
			m[c] = -1
		}
	}
	return m
}

// follows asks for the promise, of one change between two versions: each cursor that
// was there moves by its shift, and resolves by the elder one as it did.
func follows(t *testing.T, p, q pair, changed id.ID, came bool) {
	t.Helper()
	for c, by := range shifts(p, q, changed, came) {
		old, e := c.Resolve(p.v)
		if e != api.OK || old != len(p.ahead(p.place(c.Anchor))) {
			t.Fatalf("%v of %v: %d, %v", c, p.row, old, e)
		}
		if now, e := c.Resolve(q.v); now != old+by || e != api.OK {
			t.Fatalf("%v of %v, behind %v: %d, %v, not %d", c, p.row, q.row, now, e, old+by)
		}
	}
	for at := range p.v.Len() + 1 {
		c, e := cursor.At(p.v, at)
		if back, e2 := c.Resolve(p.v); back != at || e != api.OK || e2 != api.OK {
			t.Fatalf("made at %d of %v, resolved to %d: %v, %v", at, p.row, back, e, e2)
		}
	}
}

func TestP112RemoteChanges(t *testing.T) {
	for _, p := range rows(t, 5) {
		for _, c := range p.cursors() {
			for _, a := range []id.ID{mk(1, 1), mk(15, 1), mk(25, 1), mk(35, 1), mk(99, 1)} {
				if a.Counter > c.Anchor.Counter {
					q := p.insert(t, a, c.Anchor)
					follows(t, p, q, a, true)
					for _, d := range q.cursors() {
						q.holds(t, d)
					}
				}
			}
			if p.place(c.Anchor) < len(p.row) && c.Alive(p.v) {
				follows(t, p, p.remove(t, c.Anchor), c.Anchor, false)
			}
		}
	}
}

func TestP112OwnChanges(t *testing.T) {
	for _, p := range rows(t, 5) {
		for at := range p.v.Len() + 1 {
			v, o, _, e := p.v.Insert(1, at, 'y')
			if e != api.OK {
				t.Fatal(e)
			}
			q := p.insert(t, o.ID, o.Anchor)
			q.v = v
			follows(t, p, q, o.ID, true)
			here, _ := cursor.At(p.v, at)
			if now, e := here.Resolve(v); now != at+1 || e != api.OK {
				t.Fatalf("at %d of %v, where one came: %d, %v", at, p.row, now, e)
			}
		}
		for at := range p.v.Len() {
			v, o, _, e := p.v.Delete(at)
			if e != api.OK {
				t.Fatal(e)
			}
			q := p.remove(t, o.ID)
			q.v = v
			follows(t, p, q, o.ID, false)
			here, _ := cursor.At(p.v, at)
			if now, e := here.Resolve(v); now != at || e != api.OK || here.Alive(v) || !here.Alive(p.v) {
				t.Fatalf("at %d of %v, where one died: %d, %v", at, p.row, now, e)
			}
		}
	}
}

func TestP112Example(t *testing.T) {
	var v version.Version
	v, _, _, _ = v.Insert(1, 0, 'a')
	v, b, _, _ := v.Insert(1, 1, 'b')
	c, e := cursor.At(v, 1)
	if c.Anchor != b.ID || e != api.OK {
		t.Fatal(c, e)
	}
	w, _, _, _ := v.Delete(0)
	if at, e := c.Resolve(w); at != 0 || e != api.OK || w.Text() != "b" {
		t.Error(at, e, w.Text())
	}
	if at, e := c.Resolve(v); at != 1 || e != api.OK {
		t.Error(at, e)
	}
}

func TestP112ManyAtOnce(t *testing.T) {
	v := behind(t, abc+", +6.1 5.1 66, -2.1, +7.1 6.1 67, -5.1")
	c := anchored(t, "3.1")
	end := anchored(t, "-")
	w, l, e := v.Remote(parsed(t, "+5.1 1.1 65"))
	if e != api.OK || len(l) != 4 || w.Text() != "afgc" {
		t.Fatal(w.Text(), l, e)
	}
	for _, x := range []struct {
		c   cursor.Cursor
		v   version.Version
		at  int
		err api.Errno
	}{
		{c, v, 1, api.OK}, {c, w, 3, api.OK}, {end, v, 2, api.OK}, {end, w, 4, api.OK},
		{anchored(t, "1.1"), w, 0, api.OK}, {anchored(t, "2.1"), w, 3, api.OK},
		{anchored(t, "5.1"), v, 0, api.ErrNone}, {anchored(t, "5.1"), w, 1, api.OK}, {anchored(t, "7.1"), w, 2, api.OK},
	} {
		if at, e := x.c.Resolve(x.v); at != x.at || e != x.err {
			t.Errorf("%v of %q: %d, %v, not %d, %v", x.c, x.v.Text(), at, e, x.at, x.err)
		}
	}
}

// TestP112ManyVersions has versions made of any elder ones, and cursors of any of
// them asked by any other one: one that was there stays as its row says.
func TestP112ManyVersions(t *testing.T) {
	random := rand.New(rand.NewSource(11))
	worlds := []pair{{}}
	cursors := []cursor.Cursor{{}}
	for counter := int64(1); len(worlds) < 1500; counter++ {
		p := worlds[len(worlds)-1]
		if random.Intn(8) == 0 {
			p = worlds[random.Intn(len(worlds))]
		}
		var q pair
		if alive := p.all(); len(alive) > 0 && random.Intn(5) < 2 {
			a := alive[random.Intn(len(alive))]
			q = p.remove(t, a)
			follows(t, p, q, a, false)
		} else {
			a := mk(counter, random.Intn(3)+1)
			anchor := p.cursors()[random.Intn(len(p.row)+1)].Anchor
			q = p.insert(t, a, anchor)
			follows(t, p, q, a, true)
		}
		worlds = append(worlds, q)
		c, e := cursor.At(q.v, random.Intn(q.v.Len()+1))
		if e != api.OK {
			t.Fatal(e)
		}
		cursors = append(cursors, c)
		for range 5 {
			worlds[random.Intn(len(worlds))].holds(t, cursors[random.Intn(len(cursors))])
		}
	}
}
