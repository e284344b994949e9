package cursor_test

import (
	"math"
	"strings"
	"testing"

	"selvedge/api"
	"selvedge/cursor"
	"selvedge/id"
	"selvedge/op"
	"selvedge/version"
)

func mk(counter int64, site int) id.ID { return id.ID{Counter: counter, Site: site} }

// parsed is the operation of a text.
func parsed(t *testing.T, s string) op.Op {
	t.Helper()
	o, e := op.Parse(s)
	if e != api.OK {
		t.Fatalf("Parse(%q): %v", s, e)
	}
	return o
}

// behind is the first version's behind operations, with a comma between their texts;
// none of them may be refused.
func behind(t *testing.T, ops string) version.Version {
	t.Helper()
	var v version.Version
	for _, s := range strings.Split(ops, ", ") {
		if s == "" {
			continue
		}
		next, _, e := v.Remote(parsed(t, s))
		if e != api.OK {
			t.Fatalf("Remote(%s): %v", s, e)
		}
		v = next
	}
	return v
}

// anchored is the cursor of an id's text.
func anchored(t *testing.T, s string) cursor.Cursor {
	t.Helper()
	a, e := id.Parse(s)
	if e != api.OK {
		t.Fatalf("Parse(%q): %v", s, e)
	}
	return cursor.Cursor{Anchor: a}
}

// wrong are cursors whose Anchors are no ids, and aren't None.
func wrong() []cursor.Cursor {
	var l []cursor.Cursor
	for _, a := range []id.ID{
		{Counter: 0, Site: 1}, {Counter: 1, Site: 0}, {Counter: -1, Site: 1}, {Counter: 1, Site: -1},
		{Counter: -1, Site: -1}, {Counter: api.MaxCounter + 1, Site: 1}, {Counter: 1, Site: api.MaxSite + 1},
		{Counter: math.MaxInt64, Site: math.MaxInt}, {Counter: math.MinInt64, Site: math.MinInt},
		{Counter: 1 << 32, Site: 1 << 32}, {Counter: 1 + 1<<32, Site: 1 + 1<<32}, {Counter: 1 + 1<<20, Site: 1 + 1<<10},
	} {
		l = append(l, cursor.Cursor{Anchor: a})
	}
	return l
}

// Texts that the tables lead from.
const (
	abc     = "+1.1 - 61, +2.1 1.1 62, +3.1 2.1 63"
	midst   = abc + ", -2.1"
	ends    = abc + ", -1.1, -3.1"
	allDead = abc + ", -3.1, -2.1, -1.1"
	waiting = abc + ", +6.1 5.1 66, -7.1"
	sites   = "+1.1 - 61, +1.2 - 62, +2.2 1.2 63, +2.1 1.2 64, -2.2"
)

func TestP111At(t *testing.T) {
	for _, c := range []struct {
		name, ops string
		at        int
		anchor    string
		e         api.Errno
	}{
		{"the first of several", abc, 0, "1.1", api.OK},
		{"one in the midst", abc, 1, "2.1", api.OK},
		{"the last one", abc, 2, "3.1", api.OK},
		{"at the end", abc, 3, "-", api.OK},
		{"one more", abc, 4, "-", api.ErrRange},
		{"below 0", abc, -1, "-", api.ErrRange},
		{"the greatest", abc, math.MaxInt, "-", api.ErrRange},
		{"the least", abc, math.MinInt, "-", api.ErrRange},

		{"without elements, 0", "", 0, "-", api.OK},
		{"without elements, 1", "", 1, "-", api.ErrRange},
		{"without elements, below 0", "", -1, "-", api.ErrRange},
		{"without elements, the greatest", "", math.MaxInt, "-", api.ErrRange},
		{"without elements, the least", "", math.MinInt, "-", api.ErrRange},
		{"all dead, 0", allDead, 0, "-", api.OK},
		{"all dead, 1", allDead, 1, "-", api.ErrRange},
		{"all dead, 3", allDead, 3, "-", api.ErrRange},
		{"all dead, below 0", allDead, -1, "-", api.ErrRange},

		{"ahead of a dead one", midst, 0, "1.1", api.OK},
		{"behind a dead one", midst, 1, "3.1", api.OK},
		{"at the end, one dead", midst, 2, "-", api.OK},
		{"as many as there are with the dead", midst, 3, "-", api.ErrRange},
		{"between dead ones", ends, 0, "2.1", api.OK},
		{"at the end, ahead of a dead one", ends, 1, "-", api.OK},
		{"one more, where a dead one stands", ends, 2, "-", api.ErrRange},

		{"others wait, the last one", waiting, 2, "3.1", api.OK},
		{"others wait, at the end", waiting, 3, "-", api.OK},
		{"others wait, one more", waiting, 4, "-", api.ErrRange},
		{"of other Sites, the first", sites, 0, "1.2", api.OK},
		{"of other Sites, behind a dead one", sites, 1, "2.1", api.OK},
		{"of other Sites, the last one", sites, 2, "1.1", api.OK},
		{"the ends of all numbers", "+1048576.1000 - 10ffff", 0, "1048576.1000", api.OK},
	} {
		t.Run(c.name, func(t *testing.T) {
			got, e := cursor.At(behind(t, c.ops), c.at)
			if got != anchored(t, c.anchor) || e != c.e {
				t.Errorf("At %d: %v, %v, not %s, %v", c.at, got.Anchor, e, c.anchor, c.e)
			}
		})
	}
}

func TestP111ResolveAndAlive(t *testing.T) {
	for _, c := range []struct {
		name, ops, anchor string
		at                int
		e                 api.Errno
		alive             bool
	}{
		{"the first of several", abc, "1.1", 0, api.OK, true},
		{"one in the midst", abc, "2.1", 1, api.OK, true},
		{"the last one", abc, "3.1", 2, api.OK, true},
		{"at the end", abc, "-", 3, api.OK, true},

		{"at the end, without elements", "", "-", 0, api.OK, true},
		{"of none, without elements", "", "1.1", 0, api.ErrNone, false},
		{"at the end, all dead", allDead, "-", 0, api.OK, true},
		{"the first, all dead", allDead, "1.1", 0, api.OK, false},
		{"the last one, all dead", allDead, "3.1", 0, api.OK, false},
		{"at the end, behind a dead one", ends, "-", 1, api.OK, true},

		{"alive, ahead of a dead one", midst, "1.1", 0, api.OK, true},
		{"dead, with some alive on both sides", midst, "2.1", 1, api.OK, false},
		{"alive, behind a dead one", midst, "3.1", 1, api.OK, true},
		{"dead, with some alive behind alone", ends, "1.1", 0, api.OK, false},
		{"alive, between dead ones", ends, "2.1", 0, api.OK, true},
		{"dead, with some alive ahead alone", ends, "3.1", 1, api.OK, false},
		{"dead, between dead ones", abc + ", -1.1, -2.1, -3.1, +4.1 3.1 64", "2.1", 0, api.OK, false},
		{"dead, ahead of dead ones", abc + ", +4.1 3.1 64, -2.1, -3.1", "2.1", 1, api.OK, false},
		{"dead, behind dead ones", abc + ", +4.1 3.1 64, -2.1, -3.1", "3.1", 1, api.OK, false},

		{"never there", abc, "4.1", 0, api.ErrNone, false},
		{"of another Site", abc, "2.2", 0, api.ErrNone, false},
		{"of another Counter", abc, "1048576.1", 0, api.ErrNone, false},
		{"it waits", waiting, "6.1", 0, api.ErrNone, false},
		{"it is waited for", waiting, "5.1", 0, api.ErrNone, false},
		{"its Delete waits", waiting, "7.1", 0, api.ErrNone, false},
		{"it waited, and came in", waiting + ", +5.1 3.1 65", "6.1", 4, api.OK, true},
		{"it waited, and died at once", waiting + ", +7.1 1.1 67", "7.1", 1, api.OK, false},
		{"others wait, at the end", waiting, "-", 3, api.OK, true},
		{"of other Sites, dead", sites, "2.2", 1, api.OK, false},
		{"of other Sites, behind a dead one", sites, "2.1", 1, api.OK, true},
		{"the ends of all numbers", "+1048576.1000 - 10ffff", "1048576.1000", 0, api.OK, true},
	} {
		t.Run(c.name, func(t *testing.T) {
			k, v := anchored(t, c.anchor), behind(t, c.ops)
			if at, e := k.Resolve(v); at != c.at || e != c.e {
				t.Errorf("Resolve: %d, %v, not %d, %v", at, e, c.at, c.e)
			}
			if got := k.Alive(v); got != c.alive {
				t.Errorf("Alive: %v", got)
			}
		})
	}
}

func TestP111Move(t *testing.T) {
	for _, c := range []struct {
		name, ops, from string
		by              int
		to              string
		e               api.Errno
	}{
		{"not at all", abc, "2.1", 0, "2.1", api.OK},
		{"on", abc, "1.1", 1, "2.1", api.OK},
		{"back", abc, "3.1", -1, "2.1", api.OK},
		{"to the first", abc, "3.1", -2, "1.1", api.OK},
		{"to the last one", abc, "1.1", 2, "3.1", api.OK},
		{"to the end", abc, "1.1", 3, "-", api.OK},
		{"beyond the end", abc, "1.1", 4, "-", api.ErrRange},
		{"beyond the end, from the last one", abc, "3.1", 2, "-", api.ErrRange},
		{"below 0", abc, "3.1", -3, "-", api.ErrRange},
		{"below 0, from the first", abc, "1.1", -1, "-", api.ErrRange},
		{"by the greatest", abc, "1.1", math.MaxInt, "-", api.ErrRange},
		{"by the greatest, which is beyond any number", abc, "2.1", math.MaxInt, "-", api.ErrRange},
		{"by one less than the greatest", abc, "3.1", math.MaxInt - 1, "-", api.ErrRange},
		{"by the least", abc, "1.1", math.MinInt, "-", api.ErrRange},
		{"by the least, from the last one", abc, "3.1", math.MinInt, "-", api.ErrRange},

		{"from the end, not at all", abc, "-", 0, "-", api.OK},
		{"from the end, back", abc, "-", -1, "3.1", api.OK},
		{"from the end, to the first", abc, "-", -3, "1.1", api.OK},
		{"from the end, below 0", abc, "-", -4, "-", api.ErrRange},
		{"from the end, on", abc, "-", 1, "-", api.ErrRange},
		{"from the end, by the greatest", abc, "-", math.MaxInt, "-", api.ErrRange},
		{"from the end, by what is just beyond any number", abc, "-", math.MaxInt - 2, "-", api.ErrRange},
		{"from the end, by the least", abc, "-", math.MinInt, "-", api.ErrRange},
		{"from the end, by what wraps round to a place", abc, "-", math.MinInt + 1, "-", api.ErrRange},

		{"without elements, not at all", "", "-", 0, "-", api.OK},
		{"without elements, on", "", "-", 1, "-", api.ErrRange},
		{"without elements, back", "", "-", -1, "-", api.ErrRange},
		{"without elements, by the greatest", "", "-", math.MaxInt, "-", api.ErrRange},
		{"without elements, by the least", "", "-", math.MinInt, "-", api.ErrRange},
		{"all dead, not at all", allDead, "2.1", 0, "-", api.OK},
		{"all dead, on", allDead, "2.1", 1, "-", api.ErrRange},
		{"all dead, back", allDead, "2.1", -1, "-", api.ErrRange},

		{"over a dead one", midst, "1.1", 1, "3.1", api.OK},
		{"back over a dead one", midst, "3.1", -1, "1.1", api.OK},
		{"a dead one, not at all", midst, "2.1", 0, "3.1", api.OK},
		{"a dead one, on", midst, "2.1", 1, "-", api.OK},
		{"a dead one, beyond the end", midst, "2.1", 2, "-", api.ErrRange},
		{"a dead one, back", midst, "2.1", -1, "1.1", api.OK},
		{"a dead one, below 0", midst, "2.1", -2, "-", api.ErrRange},
		{"a dead one, by the greatest", midst, "2.1", math.MaxInt, "-", api.ErrRange},
		{"a dead one at the last place, not at all", ends, "3.1", 0, "-", api.OK},
		{"a dead one at the last place, back", ends, "3.1", -1, "2.1", api.OK},
		{"a dead one at the last place, on", ends, "3.1", 1, "-", api.ErrRange},
		{"a dead one at the first place, back", ends, "1.1", -1, "-", api.ErrRange},

		{"never there, not at all", abc, "4.1", 0, "-", api.ErrNone},
		{"never there, on", abc, "4.1", 1, "-", api.ErrNone},
		{"never there, ahead of a place that isn't there, either", abc, "4.1", 4, "-", api.ErrNone},
		{"never there, below 0", abc, "4.1", -1, "-", api.ErrNone},
		{"never there, by the greatest", abc, "4.1", math.MaxInt, "-", api.ErrNone},
		{"never there, by the least", abc, "4.1", math.MinInt, "-", api.ErrNone},
		{"of none, without elements", "", "1.1", 1, "-", api.ErrNone},
		{"it waits", waiting, "6.1", 0, "-", api.ErrNone},
		{"it waits, by the greatest", waiting, "6.1", math.MaxInt, "-", api.ErrNone},
		{"others wait, to the end", waiting, "1.1", 3, "-", api.OK},
		{"others wait, beyond the end", waiting, "1.1", 4, "-", api.ErrRange},
	} {
		t.Run(c.name, func(t *testing.T) {
			from := anchored(t, c.from)
			got, e := from.Move(behind(t, c.ops), c.by)
			if got != anchored(t, c.to) || e != c.e {
				t.Errorf("%s by %d: %v, %v, not %s, %v", c.from, c.by, got.Anchor, e, c.to, c.e)
			}
			if from != anchored(t, c.from) {
				t.Errorf("the cursor became %v", from.Anchor)
			}
		})
	}
}

func TestP111NoIds(t *testing.T) {
	for _, ops := range []string{"", abc, allDead, waiting, "+1048576.1000 - 10ffff"} {
		v := behind(t, ops)
		for _, c := range wrong() {
			if at, e := c.Resolve(v); at != 0 || e != api.ErrNone {
				t.Errorf("%+v, of %s: %d, %v", c.Anchor, ops, at, e)
			}
			if c.Alive(v) {
				t.Errorf("%+v is alive, of %s", c.Anchor, ops)
			}
			for _, by := range []int{0, 1, -1, 9, math.MaxInt, math.MinInt} {
				if d, e := c.Move(v, by); d != (cursor.Cursor{}) || e != api.ErrNone {
					t.Errorf("%+v by %d, of %s: %v, %v", c.Anchor, by, ops, d, e)
				}
			}
		}
	}
}

func TestP111Longest(t *testing.T) {
	const n = api.MaxElems
	var v version.Version
	for i := range n {
		v, _, _, _ = v.Insert(1, i, 'a')
	}
	if v.Len() != n {
		t.Fatal(v.Len())
	}
	first, _ := cursor.At(v, 0)
	last, _ := cursor.At(v, n-1)
	if first.Anchor != mk(1, 1) || last.Anchor != mk(n, 1) {
		t.Error(first, last)
	}
	if end, e := cursor.At(v, n); end != (cursor.Cursor{}) || e != api.OK {
		t.Error(end, e)
	}
	if at, e := last.Resolve(v); at != n-1 || e != api.OK || !last.Alive(v) {
		t.Error(at, e)
	}
	for _, c := range []struct {
		from cursor.Cursor
		by   int
		to   cursor.Cursor
		e    api.Errno
	}{
		{first, n - 1, last, api.OK},
		{first, n, cursor.Cursor{}, api.OK},
		{first, n + 1, cursor.Cursor{}, api.ErrRange},
		{last, 1 - n, first, api.OK},
		{last, -n, cursor.Cursor{}, api.ErrRange},
		{last, math.MaxInt, cursor.Cursor{}, api.ErrRange},
		{cursor.Cursor{}, -n, first, api.OK},
		{cursor.Cursor{}, -n - 1, cursor.Cursor{}, api.ErrRange},
	} {
		if got, e := c.from.Move(v, c.by); got != c.to || e != c.e {
			t.Errorf("%v by %d: %v, %v", c.from.Anchor, c.by, got.Anchor, e)
		}
	}
}
