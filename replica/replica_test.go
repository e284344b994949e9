package replica_test

import (
	"math"
	"strconv"
	"strings"
	"testing"

	"selvedge/api"
	"selvedge/id"
	"selvedge/op"
	"selvedge/replica"
	"selvedge/version"
)

// Calls that the tables lead from.
const (
	abc     = "insert 0 a, insert 1 b, insert 2 c"
	midst   = abc + ", delete 1"
	allDead = abc + ", delete 0, delete 0, delete 0"
	waiting = abc + ", apply +6.1 5.1 66, apply -7.1"
	sites   = "apply +1.1 - 61, apply +1.2 - 62, apply +2.2 1.2 63, apply +2.9 1.2 64, apply -2.2"
)

// number is a number of a call's text.
func number(t *testing.T, s string) int {
	t.Helper()
	n, e := strconv.Atoi(s)
	if e != nil {
		t.Fatalf("no number: %q", s)
	}
	return n
}

// call is the call of a text: the kind's word, and what it needs.
func call(t *testing.T, s string) replica.Call {
	t.Helper()
	word, rest, _ := strings.Cut(s, " ")
	switch word {
	case "insert":
		at, char, _ := strings.Cut(rest, " ")
		return replica.Call{Kind: replica.Insert, At: number(t, at), Char: []rune(char)[0]}
	case "delete":
		return replica.Call{Kind: replica.Delete, At: number(t, rest)}
	case "apply":
		o, e := op.Parse(rest)
		if e != api.OK {
			t.Fatalf("Parse(%q): %v", rest, e)
		}
		return replica.Call{Kind: replica.Apply, Op: o}
	case "read":
		return replica.Call{Kind: replica.Read}
	case "len":
		return replica.Call{Kind: replica.Len}
	case "mark":
		return replica.Call{Kind: replica.Mark, At: number(t, rest)}
	case "where":
		a, e := id.Parse(rest)
		if e != api.OK {
			t.Fatalf("Parse(%q): %v", rest, e)
		}
		return replica.Call{Kind: replica.Where, Anchor: a}
	case "snapshot":
		return replica.Call{Kind: replica.Snapshot}
	case "close":
		return replica.Call{Kind: replica.Close}
	}
	t.Fatalf("no call: %q", s)
	return replica.Call{}
}

// calls are those of texts, with a comma between them.
func calls(t *testing.T, s string) []replica.Call {
	t.Helper()
	var l []replica.Call
	for _, x := range strings.Split(s, ", ") {
		if x != "" {
			l = append(l, call(t, x))
		}
	}
	return l
}

// behind is the pair of a new replica behind calls, none of which may be refused.
func behind(t *testing.T, site int, s string) pair {
	t.Helper()
	p := begun(t, site)
	for _, c := range calls(t, s) {
		next, x, _ := p.does(t, c)
		if x.Err != api.OK {
			t.Fatalf("%+v: %v", c, x.Err)
		}
		p = next
	}
	return p
}

// refused asks for a call that a pair must refuse: nothing but the Err is answered,
// there are no changes, and the replica is as it was.
func refused(t *testing.T, p pair, c replica.Call, want api.Errno) {
	t.Helper()
	for range 2 {
		next, x, l := p.r.Changes(c)
		if x != (replica.Result{Err: want}) || len(l) != 0 {
			t.Fatalf("Changes(%+v): %+v, %v, not %v alone", c, x, l, want)
		}
		same(t, next, p.m)
		next, x = p.r.Do(c)
		if x != (replica.Result{Err: want}) {
			t.Fatalf("Do(%+v): %+v, not %v alone", c, x, want)
		}
		same(t, next, p.m)
		if x = p.r.Look(c); x != (replica.Result{Err: want}) {
			t.Fatalf("Look(%+v): %+v, not %v alone", c, x, want)
		}
		same(t, p.r, p.m)
		p = pair{next, p.m}
	}
}

// story is what changes tell: of each its Seq, + or -, At, the ID, and the Char.
func story(l []version.Change) string {
	var s []string
	for _, c := range l {
		sign := "+"
		if c.Del {
			sign = "-"
		}
		s = append(s, strconv.FormatInt(c.Seq, 10)+" "+sign+strconv.Itoa(c.At)+" "+c.ID.String()+" "+string(c.Char))
	}
	return strings.Join(s, ", ")
}

func TestP121New(t *testing.T) {
	for _, site := range []int{1, 2, 3, 500, 999, 1000} {
		p := begun(t, site)
		same(t, p.r, p.m)
		if p.r.Closed() || p.r.Version().Text() != "" || p.r.Version().Seq() != 0 {
			t.Errorf("New(%d): closed %v, %q", site, p.r.Closed(), p.r.Version().Text())
		}
		next, x := p.r.Do(replica.Call{Char: 'a'})
		if x != (replica.Result{N: 1, Text: "+1." + strconv.Itoa(site) + " - 61"}) {
			t.Errorf("New(%d): %+v", site, x)
		}
		// The Site is kept, behind whatever was done.
		for _, s := range []string{"apply +5.7 - 62", "delete 0", "read", "mark 0", "snapshot"} {
			next, _ = next.Do(call(t, s))
		}
		if x = next.Look(replica.Call{Char: 'c'}); x != (replica.Result{N: 4, Text: "+6." + strconv.Itoa(site) + " - 63"}) {
			t.Errorf("New(%d), behind other calls: %+v", site, x)
		}
	}
	for _, site := range []int{0, 1001, -1, -2, -1000, 1002, 1 << 10, 1 << 32, 1 + 1<<32, math.MaxInt, math.MinInt, math.MinInt + 1} {
		r, e := replica.New(site)
		if e != api.ErrRange {
			t.Errorf("New(%d): %v", site, e)
		}
		same(t, r, model{})
		pair{r, model{}}.holds(t)
	}
}

func TestP121ZeroReplica(t *testing.T) {
	var p pair
	if !p.r.Closed() {
		t.Error("the zero one is open")
	}
	same(t, p.r, p.m)
	for kind := replica.Kind(0); kind <= 8; kind++ {
		refused(t, p, replica.Call{Kind: kind, Char: 'a'}, api.ErrClosed)
		refused(t, p, replica.Call{Kind: kind, At: -1}, api.ErrClosed)
	}
	p.holds(t)
}

func TestP121Example(t *testing.T) {
	r, e := replica.New(1)
	if e != api.OK {
		t.Fatal(e)
	}
	r, x := r.Do(replica.Call{Kind: replica.Insert, At: 0, Char: 'a'})
	if x != (replica.Result{N: 1, Text: "+1.1 - 61"}) {
		t.Error(x)
	}
	if _, x = r.Do(replica.Call{Kind: replica.Read}); x != (replica.Result{Text: "a"}) {
		t.Error(x)
	}
}

// Each kind, with what it answers, and with its changes.
func TestP121Kinds(t *testing.T) {
	for _, c := range []struct {
		name, ahead, call string
		n                 int
		text, story       string
	}{
		{"insert, at first", "", "insert 0 a", 1, "+1.3 - 61", "1 +0 1.3 a"},
		{"insert, ahead of all", abc, "insert 0 x", 4, "+4.3 - 78", "4 +0 4.3 x"},
		{"insert, in the midst", abc, "insert 2 x", 4, "+4.3 2.3 78", "4 +2 4.3 x"},
		{"insert, at the end", abc, "insert 3 x", 4, "+4.3 3.3 78", "4 +3 4.3 x"},
		{"insert, one dead", midst, "insert 2 x", 5, "+4.3 3.3 78", "5 +2 4.3 x"},
		{"insert, behind one ahead of a dead one", midst, "insert 1 x", 5, "+4.3 1.3 78", "5 +1 4.3 x"},
		{"insert, all dead", allDead, "insert 0 x", 7, "+4.3 - 78", "7 +0 4.3 x"},
		{"insert, while others wait", waiting, "insert 3 x", 4, "+8.3 3.3 78", "4 +3 8.3 x"},
		{"insert, behind one of another Site", sites, "insert 1 x", 6, "+3.3 1.2 78", "6 +1 3.3 x"},
		{"insert, of a great character", "", "insert 0 \U0010ffff", 1, "+1.3 - 10ffff", "1 +0 1.3 \U0010ffff"},
		{"insert, of a tilde", "", "insert 0 ~", 1, "+1.3 - 7e", "1 +0 1.3 ~"},

		{"delete, the only one", "insert 0 a", "delete 0", 2, "-1.3", "2 -0 1.3 a"},
		{"delete, the first one", abc, "delete 0", 4, "-1.3", "4 -0 1.3 a"},
		{"delete, in the midst", abc, "delete 1", 4, "-2.3", "4 -1 2.3 b"},
		{"delete, the last one", abc, "delete 2", 4, "-3.3", "4 -2 3.3 c"},
		{"delete, behind a dead one", midst, "delete 1", 5, "-3.3", "5 -1 3.3 c"},
		{"delete, while others wait", waiting, "delete 0", 4, "-1.3", "4 -0 1.3 a"},
		{"delete, one of another Site", sites, "delete 1", 6, "-2.9", "6 -1 2.9 d"},

		{"apply, an Insert", "", "apply +1.1 - 61", 1, "", "1 +0 1.1 a"},
		{"apply, an Insert of its own Site", "", "apply +1.3 - 61", 1, "", "1 +0 1.3 a"},
		{"apply, an Insert in the midst", abc, "apply +4.1 1.3 78", 1, "", "4 +1 4.1 x"},
		{"apply, a Delete", abc, "apply -2.3", 1, "", "4 -1 2.3 b"},
		{"apply, the ends of all numbers", "", "apply +1048576.1000 - 10ffff", 1, "", "1 +0 1048576.1000 \U0010ffff"},
		{"apply, it waits", "", "apply +2.1 1.1 62", 0, "", ""},
		{"apply, a Delete waits", abc, "apply -9.1", 0, "", ""},
		{"apply, it waits, others waiting", waiting, "apply +8.1 7.1 67", 0, "", ""},
		{"apply, one waits for it", "apply +2.1 1.1 62", "apply +1.1 - 61", 2, "", "1 +0 1.1 a, 2 +1 2.1 b"},
		{"apply, its own Delete waits", "apply -1.1", "apply +1.1 - 61", 2, "", "1 +0 1.1 a, 2 -0 1.1 a"},
		{"apply, four wait for it", "apply +3.1 2.1 63, apply -3.1, apply +2.1 1.1 62, apply -1.1", "apply +1.1 - 61", 5, "", "1 +0 1.1 a, 2 +1 2.1 b, 3 +2 3.1 c, 4 -2 3.1 c, 5 -0 1.1 a"},
		{"apply, others wait on", waiting, "apply +5.1 3.3 65", 2, "", "4 +3 5.1 e, 5 +4 6.1 f"},
		{"apply, one that waited is gone", "apply +3.1 2.1 63", "apply +3.1 - 64", 1, "", "1 +0 3.1 d"},
		{"apply, one that waited is gone, another one comes", "apply +3.1 2.1 63, apply +4.1 3.1 65", "apply +3.1 - 64", 2, "", "1 +0 3.1 d, 2 +1 4.1 e"},

		{"read, without elements", "", "read", 0, "", ""},
		{"read", abc, "read", 0, "abc", ""},
		{"read, one dead", midst, "read", 0, "ac", ""},
		{"read, all dead", allDead, "read", 0, "", ""},
		{"read, others waiting", waiting, "read", 0, "abc", ""},
		{"read, of several Sites", sites, "read", 0, "bda", ""},
		{"read, of great characters", "insert 0 \u00e9, insert 1 \U0010ffff", "read", 0, "\u00e9\U0010ffff", ""},

		{"len, without elements", "", "len", 0, "", ""},
		{"len", abc, "len", 3, "", ""},
		{"len, one dead", midst, "len", 2, "", ""},
		{"len, all dead", allDead, "len", 0, "", ""},
		{"len, others waiting", waiting, "len", 3, "", ""},
		{"len, of great characters", "insert 0 \u00e9, insert 1 \U0010ffff", "len", 2, "", ""},

		{"mark, the first one", abc, "mark 0", 0, "1.3", ""},
		{"mark, in the midst", abc, "mark 1", 0, "2.3", ""},
		{"mark, the last one", abc, "mark 2", 0, "3.3", ""},
		{"mark, at the end", abc, "mark 3", 0, "-", ""},
		{"mark, behind a dead one", midst, "mark 1", 0, "3.3", ""},
		{"mark, at the end, one dead", midst, "mark 2", 0, "-", ""},
		{"mark, all dead", allDead, "mark 0", 0, "-", ""},
		{"mark, without elements", "", "mark 0", 0, "-", ""},
		{"mark, of another Site", sites, "mark 1", 0, "2.9", ""},

		{"where, None", abc, "where -", 3, "", ""},
		{"where, None, one dead", midst, "where -", 2, "", ""},
		{"where, None, without elements", "", "where -", 0, "", ""},
		{"where, None, all dead", allDead, "where -", 0, "", ""},
		{"where, the first one", abc, "where 1.3", 0, "", ""},
		{"where, the last one", abc, "where 3.3", 2, "", ""},
		{"where, a dead one", midst, "where 2.3", 1, "", ""},
		{"where, behind a dead one", midst, "where 3.3", 1, "", ""},
		{"where, all dead", allDead, "where 3.3", 0, "", ""},
		{"where, of another Site", sites, "where 1.1", 2, "", ""},
		{"where, a dead one of another Site", sites, "where 2.2", 2, "", ""},

		{"snapshot, without elements", "", "snapshot", 0, "0 0 0 0 0", ""},
		{"snapshot", "insert 0 a", "snapshot", 1, "1 1 3 -8 6", ""},
		{"snapshot, of several", abc, "snapshot", 3, "3 6 9 -13 36", ""},
		{"snapshot, one dead", midst, "snapshot", 4, "3 6 9 -13 36", ""},
		{"snapshot, all dead", allDead, "snapshot", 6, "3 6 9 -13 36", ""},
		{"snapshot, others waiting", waiting, "snapshot", 3, "3 6 9 -13 36", ""},
		{"snapshot, of several Sites", sites, "snapshot", 5, "4 6 14 -80 50", ""},
		{"snapshot, of several Sites and its own", sites + ", insert 0 x", "snapshot", 6, "5 9 17 -80 68", ""},

		{"close, without elements", "", "close", 0, "", ""},
		{"close", abc, "close", 0, "", ""},
		{"close, others waiting", waiting, "close", 0, "", ""},
	} {
		t.Run(c.name, func(t *testing.T) {
			p := behind(t, 3, c.ahead)
			next, _, _ := p.does(t, call(t, c.call))
			r, x, l := p.r.Changes(call(t, c.call))
			if x != (replica.Result{N: c.n, Text: c.text}) || story(l) != c.story {
				t.Errorf("%+v, %s, not %d, %q, %s", x, story(l), c.n, c.text, c.story)
			}
			if r.Closed() != (c.call == "close") {
				t.Error(r.Closed())
			}
			next.holds(t)
		})
	}
}

// Each error of each kind, and where several apply the first one.
func TestP121Errors(t *testing.T) {
	const all = abc + ", delete 1, apply +6.1 5.1 66, apply -7.1"
	apply := func(o op.Op) replica.Call { return replica.Call{Kind: replica.Apply, Op: o} }
	for _, c := range []struct {
		name, ahead string
		call        replica.Call
		want        api.Errno
	}{
		{"insert, behind the end", all, replica.Call{At: 3, Char: 'x'}, api.ErrRange},
		{"insert, ahead of all", all, replica.Call{At: -1, Char: 'x'}, api.ErrRange},
		{"insert, the greatest", all, replica.Call{At: math.MaxInt, Char: 'x'}, api.ErrRange},
		{"insert, the least", all, replica.Call{At: math.MinInt, Char: 'x'}, api.ErrRange},
		{"insert, without elements", "", replica.Call{At: 1, Char: 'x'}, api.ErrRange},
		{"insert, outside, of no character", all, replica.Call{At: 3, Char: 31}, api.ErrRange},
		{"insert, of none", all, replica.Call{}, api.ErrForm},
		{"insert, too small", all, replica.Call{Char: 31}, api.ErrForm},
		{"insert, below 0", all, replica.Call{Char: -1}, api.ErrForm},
		{"insert, the least character", all, replica.Call{Char: math.MinInt32}, api.ErrForm},
		{"insert, a surrogate", all, replica.Call{Char: 0xd800}, api.ErrForm},
		{"insert, the last surrogate", all, replica.Call{Char: 0xdfff}, api.ErrForm},
		{"insert, too great", all, replica.Call{Char: 0x110000}, api.ErrForm},
		{"insert, the greatest character", all, replica.Call{Char: math.MaxInt32}, api.ErrForm},
		{"insert, no counter left", "apply +1048576.1 - 61", replica.Call{Char: 'x'}, api.ErrFull},
		{"insert, no counter left, by one that waits", "apply -1048576.1", replica.Call{Char: 'x'}, api.ErrFull},
		{"insert, no counter left, outside", "apply +1048576.1 - 61", replica.Call{At: 2, Char: 'x'}, api.ErrRange},
		{"insert, no counter left, of no character", "apply +1048576.1 - 61", replica.Call{Char: 31}, api.ErrForm},

		{"delete, behind the end", all, replica.Call{Kind: 1, At: 2}, api.ErrRange},
		{"delete, ahead of all", all, replica.Call{Kind: 1, At: -1}, api.ErrRange},
		{"delete, the greatest", all, replica.Call{Kind: 1, At: math.MaxInt}, api.ErrRange},
		{"delete, the least", all, replica.Call{Kind: 1, At: math.MinInt}, api.ErrRange},
		{"delete, without elements", "", replica.Call{Kind: 1}, api.ErrRange},
		{"delete, all dead", allDead, replica.Call{Kind: 1}, api.ErrRange},

		{"apply, no Kind", all, apply(op.Op{Kind: 2, ID: mk(9, 1), Char: 'x'}), api.ErrForm},
		{"apply, no Kind, below 0", all, apply(op.Op{Kind: -1, ID: mk(1, 3), Char: 'a'}), api.ErrForm},
		{"apply, a Delete with an Anchor", all, apply(op.Op{Kind: op.Delete, ID: mk(3, 3), Anchor: mk(1, 3)}), api.ErrForm},
		{"apply, a Delete with a Char", all, apply(op.Op{Kind: op.Delete, ID: mk(3, 3), Char: 'c'}), api.ErrForm},
		{"apply, the zero one", all, apply(op.Op{}), api.ErrRange},
		{"apply, an ID too great", all, apply(insertOf(mk(1048577, 1), id.ID{}, 'x')), api.ErrRange},
		{"apply, an Anchor that may not be", all, apply(insertOf(mk(9, 1), mk(1, 1001), 'x')), api.ErrRange},
		{"apply, the Anchor's Counter isn't less", all, apply(insertOf(mk(3, 4), mk(3, 3), 'x')), api.ErrOrder},
		{"apply, no Char", all, apply(insertOf(mk(9, 1), id.ID{}, 31)), api.ErrForm},
		{"apply, a surrogate", all, apply(insertOf(mk(9, 1), mk(8, 1), 0xd800)), api.ErrForm},
		{"apply, there", all, apply(insertOf(mk(3, 3), mk(2, 3), 'c')), api.ErrTwice},
		{"apply, there, dead", all, apply(insertOf(mk(2, 3), mk(1, 3), 'b')), api.ErrTwice},
		{"apply, a Delete of a dead one", all, apply(deleteOf(mk(2, 3))), api.ErrTwice},
		{"apply, one that waits", all, apply(insertOf(mk(6, 1), mk(5, 1), 'f')), api.ErrTwice},
		{"apply, a Delete that waits", all, apply(deleteOf(mk(7, 1))), api.ErrTwice},
		{"apply, there with another Char", all, apply(insertOf(mk(3, 3), mk(2, 3), 'x')), api.ErrClash},
		{"apply, there with another Anchor", all, apply(insertOf(mk(3, 3), id.ID{}, 'c')), api.ErrClash},
		{"apply, one waits with another Char", all, apply(insertOf(mk(6, 1), mk(5, 1), 'x')), api.ErrClash},

		{"mark, behind the end", all, replica.Call{Kind: 5, At: 3}, api.ErrRange},
		{"mark, ahead of all", all, replica.Call{Kind: 5, At: -1}, api.ErrRange},
		{"mark, the greatest", all, replica.Call{Kind: 5, At: math.MaxInt}, api.ErrRange},
		{"mark, the least", all, replica.Call{Kind: 5, At: math.MinInt}, api.ErrRange},
		{"mark, without elements", "", replica.Call{Kind: 5, At: 1}, api.ErrRange},
		{"mark, all dead", allDead, replica.Call{Kind: 5, At: 1}, api.ErrRange},

		{"where, never there", all, replica.Call{Kind: 6, Anchor: mk(9, 9)}, api.ErrNone},
		{"where, of another Site", all, replica.Call{Kind: 6, Anchor: mk(1, 1)}, api.ErrNone},
		{"where, it waits", all, replica.Call{Kind: 6, Anchor: mk(6, 1)}, api.ErrNone},
		{"where, its Delete waits", all, replica.Call{Kind: 6, Anchor: mk(7, 1)}, api.ErrNone},
		{"where, without elements", "", replica.Call{Kind: 6, Anchor: mk(1, 3)}, api.ErrNone},
		{"where, no id, without a Site", all, replica.Call{Kind: 6, Anchor: mk(1, 0)}, api.ErrNone},
		{"where, no id, without a Counter", all, replica.Call{Kind: 6, Anchor: mk(0, 3)}, api.ErrNone},
		{"where, no id, below 0", all, replica.Call{Kind: 6, Anchor: mk(-1, -1)}, api.ErrNone},
		{"where, no id, the ends", all, replica.Call{Kind: 6, Anchor: mk(math.MaxInt64, math.MinInt)}, api.ErrNone},
	} {
		t.Run(c.name, func(t *testing.T) {
			p := behind(t, 3, c.ahead)
			refused(t, p, c.call, c.want)
			// Nothing is left of what was refused: all calls answer as before.
			next, _ := p.r.Do(c.call)
			pair{next, p.m}.holds(t)
		})
	}
}

func TestP121FullRoom(t *testing.T) {
	p := begun(t, 3)
	for i := range 16 {
		next, x, _ := p.does(t, replica.Call{Kind: replica.Apply, Op: insertOf(mk(int64(40-i), i+1), mk(2, 1), 'a'+rune(i))})
		if x != (replica.Result{}) {
			t.Fatal(i, x)
		}
		p = next
	}
	refused(t, p, call(t, "apply +9.9 8.8 61"), api.ErrFull)
	refused(t, p, call(t, "apply -9.9"), api.ErrFull)
	refused(t, p, call(t, "apply +40.1 2.1 61"), api.ErrTwice)
	p.holds(t)
	// What all of them wait for lets all of them in.
	p, x, _ := p.does(t, call(t, "apply +2.1 - 7a"))
	if x != (replica.Result{N: 17}) {
		t.Fatal(x)
	}
	if p.m.text() != "zabcdefghijklmnop" || p.r.Look(call(t, "read")).Text != p.m.text() {
		t.Fatal(p.m.text(), p.r.Look(call(t, "read")))
	}
	p.holds(t)
}

func TestP121FullElements(t *testing.T) {
	const n = api.MaxElems
	r, _ := replica.New(1000)
	m := model{site: 1000, open: true}
	for i := range n {
		next, x := r.Do(replica.Call{At: i, Char: 'a'})
		if x.Err != api.OK || x.N != i+1 {
			t.Fatal(i, x)
		}
		r = next
		anchor := mk(int64(i), 1000)
		if i == 0 {
			anchor = id.ID{}
		}
		m.row = append(m.row, elem{id: mk(int64(i+1), 1000), anchor: anchor, char: 'a'})
	}
	m.seq = n
	p := pair{r, m}
	refused(t, p, replica.Call{Char: 'x'}, api.ErrFull)
	refused(t, p, replica.Call{At: n, Char: 'x'}, api.ErrFull)
	refused(t, p, replica.Call{At: n + 1, Char: 'x'}, api.ErrRange)
	refused(t, p, replica.Call{At: n, Char: 31}, api.ErrForm)
	refused(t, p, call(t, "apply +9.9 - 61"), api.ErrFull)
	refused(t, p, call(t, "apply +1.1000 - 61"), api.ErrTwice)
	for _, c := range []struct {
		call string
		want replica.Result
	}{
		{"read", replica.Result{Text: strings.Repeat("a", n)}},
		{"len", replica.Result{N: n}},
		{"mark 4095", replica.Result{Text: "4096.1000"}},
		{"mark 4096", replica.Result{Text: "-"}},
		{"where -", replica.Result{N: n}},
		{"where 4096.1000", replica.Result{N: n - 1}},
		{"snapshot", replica.Result{N: n, Text: "4096 8390656 4096000 18818881536 16781312000"}},
		{"apply +9.9 8.8 61", replica.Result{}},
		{"delete 4095", replica.Result{N: n + 1, Text: "-4096.1000"}},
		{"apply -1.1000", replica.Result{N: 1}},
	} {
		if x := r.Look(call(t, c.call)); x != c.want {
			t.Errorf("%s: %+v, not %+v", c.call, x, c.want)
		}
	}
	// The dead count as well.
	p, _, _ = p.does(t, call(t, "delete 7"))
	refused(t, p, replica.Call{At: 7, Char: 'x'}, api.ErrFull)
	same(t, p.r, p.m)
}

// noKinds are numbers that are no kind's.
func noKinds() []replica.Kind {
	return []replica.Kind{-1, 9, -2, 10, -8, -9, 16, 64, 255, 256, 257, -256, 1 << 16, 1 << 32, 1<<32 + 3, 8 - 1<<32, math.MaxInt, math.MaxInt - 1, math.MinInt, math.MinInt + 1}
}

// That the Kind is none comes ahead of that the replica is closed.
func TestP121NoKinds(t *testing.T) {
	pairs := []pair{{}, begun(t, 1), behind(t, 3, waiting), behind(t, 3, "close"), behind(t, 3, waiting+", close")}
	for _, p := range pairs {
		for _, kind := range noKinds() {
			refused(t, p, replica.Call{Kind: kind}, api.ErrForm)
			refused(t, p, replica.Call{Kind: kind, At: 1, Char: 'x', Op: insertOf(mk(9, 9), id.ID{}, 'x'), Anchor: mk(1, 3)}, api.ErrForm)
			refused(t, p, replica.Call{Kind: kind, At: -1, Op: op.Op{Kind: 7}, Anchor: mk(9, 9)}, api.ErrForm)
		}
		p.holds(t)
	}
}

// Of a closed replica each kind is refused alike, be it one that else had an error or
// not; its version stays what it was.
func TestP121Closed(t *testing.T) {
	for _, ahead := range []string{"", abc, midst, allDead, waiting, sites, "apply +1048576.1 - 61"} {
		p := behind(t, 3, ahead)
		open := p
		p, x, l := p.does(t, replica.Call{Kind: replica.Close})
		if x != (replica.Result{}) || len(l) != 0 || !p.r.Closed() || open.r.Closed() {
			t.Fatal(ahead, x, l, p.r.Closed(), open.r.Closed())
		}
		for kind := replica.Kind(0); kind <= 8; kind++ {
			refused(t, p, replica.Call{Kind: kind}, api.ErrClosed)
			refused(t, p, replica.Call{Kind: kind, At: 0, Char: 'x', Op: insertOf(mk(9, 9), id.ID{}, 'x')}, api.ErrClosed)
			refused(t, p, replica.Call{Kind: kind, At: -1, Char: 31, Op: op.Op{Kind: 7}, Anchor: mk(9, 9)}, api.ErrClosed)
		}
		p.holds(t)
		same(t, open.r, open.m)
		open.holds(t)
	}
}

// What a kind doesn't need may be anything: it makes no difference.
func TestP121OtherFields(t *testing.T) {
	for _, ahead := range []string{"", midst, waiting, waiting + ", close"} {
		p := behind(t, 3, ahead)
		for _, c := range p.m.calls() {
			d := replica.Call{At: math.MinInt, Char: -1, Op: op.Op{Kind: 7, ID: mk(-1, -1)}, Anchor: mk(9, 9)}
			d.Kind = c.Kind
			switch c.Kind {
			case replica.Insert:
				d.At, d.Char = c.At, c.Char
			case replica.Delete, replica.Mark:
				d.At = c.At
			case replica.Apply:
				d.Op = c.Op
			case replica.Where:
				d.Anchor = c.Anchor
			}
			p.does(t, d)
			if x, y := p.r.Look(c), p.r.Look(d); x != y {
				t.Errorf("%+v: %+v, but %+v: %+v", c, x, d, y)
			}
		}
	}
}

// What Changes hands out is the caller's own.
func TestP121ChangesAreNewMemory(t *testing.T) {
	p := behind(t, 3, "apply +3.1 2.1 63, apply +2.1 1.1 62")
	for _, s := range []string{"apply +1.1 - 61", "insert 0 x", "apply +9.9 8.8 61"} {
		r, _, l := p.r.Changes(call(t, s))
		_, _, again := p.r.Changes(call(t, s))
		want := story(again)
		for i := range l {
			l[i] = version.Change{Seq: -1, Char: '?'}
		}
		l = append(l, version.Change{Seq: -2})
		if story(again) != want {
			t.Errorf("%s: %s became %s", s, want, story(again))
		}
		_, m, _ := p.does(t, call(t, s))
		if x := p.r.Look(call(t, s)); x != m {
			t.Errorf("%s: %+v, not %+v", s, x, m)
		}
		next, _, _ := p.m.does(call(t, s))
		same(t, r, next)
		same(t, p.r, p.m)
		p = pair{r, next}
	}
	// What waits is handed out as new memory, too.
	v := p.r.Version()
	for i := range v.Waiting() {
		v.Waiting()[i] = op.Op{}
	}
	same(t, p.r, p.m)
}

func TestP122Writes(t *testing.T) {
	for kind := replica.Kind(0); kind <= 8; kind++ {
		want := kind == replica.Insert || kind == replica.Delete || kind == replica.Apply
		if kind.Writes() != want {
			t.Errorf("%d: %v", int(kind), kind.Writes())
		}
	}
	for _, kind := range noKinds() {
		if kind.Writes() {
			t.Errorf("%d writes", int(kind))
		}
	}
}

func TestP122String(t *testing.T) {
	for kind, word := range map[replica.Kind]string{
		replica.Insert: "insert", replica.Delete: "delete", replica.Apply: "apply", replica.Read: "read", replica.Len: "len",
		replica.Mark: "mark", replica.Where: "where", replica.Snapshot: "snapshot", replica.Close: "close",
	} {
		if kind.String() != word {
			t.Errorf("%d: %q, not %q", int(kind), kind.String(), word)
		}
	}
	for i, word := range []string{"insert", "delete", "apply", "read", "len", "mark", "where", "snapshot", "close"} {
		if got := replica.Kind(i).String(); got != word {
			t.Errorf("%d: %q, not %q", i, got, word)
		}
	}
	for _, kind := range noKinds() {
		if kind.String() != "none" {
			t.Errorf("%d: %q", int(kind), kind.String())
		}
	}
}
