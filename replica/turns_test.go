package replica_test

import (
	"math/rand"
	"testing"

	"selvedge/api"
	"selvedge/id"
	"selvedge/op"
	"selvedge/replica"
	"selvedge/version"
)

// looks are the kinds that neither write nor close.
func looks() []replica.Kind {
	return []replica.Kind{replica.Read, replica.Len, replica.Mark, replica.Where, replica.Snapshot}
}

// turns are calls of which each is told by what was done ahead of it.
func turns(t *testing.T) []replica.Call {
	t.Helper()
	return calls(t, "insert 0 a, insert 1 b, delete 0, apply +1.1 - 78, apply +2.1 1.1 79, apply +3.2 2.1 7a, apply -1.1, apply -2.2, "+
		"read, mark 1, where 1.1, snapshot, close")
}

// TestP121EveryShortTurn does all rows of up to four of some calls.
func TestP121EveryShortTurn(t *testing.T) {
	l := turns(t)
	var grow func(p pair, left int)
	grow = func(p pair, left int) {
		for _, c := range l {
			next, _, _ := p.does(t, c)
			if left > 1 {
				grow(next, left-1)
			}
		}
	}
	grow(begun(t, 2), 4)
}

// op is an operation that may be let in, wait, or be refused.
func (m model) op(random *rand.Rand) op.Op {
	a := mk(int64(random.Intn(30)+1), random.Intn(3)+1)
	if len(m.row) > 0 && random.Intn(3) == 0 {
		a = m.row[random.Intn(len(m.row))].id
	}
	if random.Intn(4) == 0 {
		return deleteOf(a)
	}
	var anchor id.ID
	if len(m.row) > 0 && random.Intn(2) == 0 {
		anchor = m.row[random.Intn(len(m.row))].id
	} else if a.Counter > 1 {
		anchor = mk(random.Int63n(a.Counter-1)+1, random.Intn(3)+1)
	}
	return insertOf(a, anchor, 'a'+rune(random.Intn(3)))
}

// call is a call that is mostly fit for a model.
func (m model) call(random *rand.Rand) replica.Call {
	c := replica.Call{At: random.Intn(len(m.alive())+3) - 1, Char: rune(random.Intn(100) + 30), Op: m.op(random)}
	switch k := random.Intn(100); {
	case k < 30:
		c.Kind = replica.Insert
	case k < 45:
		c.Kind = replica.Delete
	case k < 75:
		c.Kind = replica.Apply
	case k < 96:
		c.Kind = looks()[random.Intn(len(looks()))]
		c.Anchor = c.Op.ID
	case k < 98:
		c.Kind = replica.Kind(random.Intn(30) - 10)
	default:
		c.Kind = replica.Close
	}
	return c
}

// TestP121ManyReplicas has replicas made of any elder ones, and any elder one asked
// again: it answers as its model does, whatever was made of it.
func TestP121ManyReplicas(t *testing.T) {
	for seed := range int64(4) {
		random := rand.New(rand.NewSource(seed))
		pairs := []pair{begun(t, random.Intn(3)+1), {}}
		for len(pairs) < 500 {
			p := pairs[random.Intn(len(pairs))]
			if random.Intn(10) > 0 {
				p = pairs[len(pairs)-1]
			}
			if !p.m.open && random.Intn(3) > 0 {
				p = pairs[0]
			}
			next, _, _ := p.does(t, p.m.call(random))
			pairs = append(pairs, next)
			if random.Intn(25) == 0 {
				pairs[random.Intn(len(pairs))].holds(t)
			}
		}
		for _, p := range pairs {
			same(t, p.r, p.m)
		}
	}
}

// TestP121Elder has two lines of calls go on from one replica: neither hears of the
// other one, nor does the elder replica of both.
func TestP121Elder(t *testing.T) {
	for _, ahead := range []string{"", abc, midst, allDead, waiting, sites} {
		elder := behind(t, 3, ahead)
		left, right := elder, elder
		for _, c := range turns(t) {
			left, _, _ = left.does(t, c)
		}
		for _, c := range calls(t, "insert 0 q, apply +5.1 - 72, delete 0, apply +9.2 8.2 73, apply +8.2 - 74") {
			right, _, _ = right.does(t, c)
		}
		for _, p := range []pair{elder, left, right} {
			same(t, p.r, p.m)
			p.holds(t)
		}
		if elder.r.Closed() || right.r.Closed() || !left.r.Closed() {
			t.Error(elder.r.Closed(), right.r.Closed(), left.r.Closed())
		}
	}
}

// The changes of a replica's calls are those by which its text came to be.
func TestP121ChangesReplay(t *testing.T) {
	random := rand.New(rand.NewSource(12))
	p := begun(t, 2)
	var chars []rune
	var seq int64
	for range 400 {
		c := p.m.call(random)
		if c.Kind == replica.Close {
			continue
		}
		next, x, l := p.r.Changes(c)
		if x.Err != api.OK && len(l) > 0 || !c.Kind.Writes() && len(l) > 0 {
			t.Fatalf("%+v: %+v, %s", c, x, story(l))
		}
		for _, change := range l {
			seq++
			if change.Seq != seq {
				t.Fatalf("%+v: %s, not %d", c, story(l), seq)
			}
			chars = replayed(chars, change)
		}
		p.r = next
		p.m, _, _ = p.m.does(c)
		if got := p.r.Look(replica.Call{Kind: replica.Read}).Text; got != string(chars) {
			t.Fatalf("%+v: %q, not %q", c, got, string(chars))
		}
	}
	if len(chars) == 0 || seq < 100 {
		t.Error(string(chars), seq)
	}
}

// replayed is characters behind a change.
func replayed(chars []rune, c version.Change) []rune {
	tail := append([]rune{}, chars[c.At:]...)
	if c.Del {
		return append(chars[:c.At], tail[1:]...)
	}
	return append(append(chars[:c.At], c.Char), tail...)
}

// TestP123LooksLeaveTheReplica has each replica do many calls that only look, one behind the other, and
// then what it would have done without them.
func TestP123LooksLeaveTheReplica(t *testing.T) {
	for _, ahead := range []string{"", abc, midst, allDead, waiting, sites, "apply +1048576.1 - 61", waiting + ", close"} {
		p := behind(t, 3, ahead)
		looked := p.r
		for _, kind := range append(looks(), noKinds()...) {
			for _, c := range p.m.calls() {
				c.Kind = kind
				var l []version.Change
				looked, _, l = looked.Changes(c)
				if len(l) != 0 {
					t.Fatalf("%+v, behind %s: %s", c, ahead, story(l))
				}
				same(t, looked, p.m)
				looked, _ = looked.Do(c)
				same(t, looked, p.m)
				looked.Look(c)
				same(t, looked, p.m)
			}
		}
		pair{looked, p.m}.holds(t)
		p.holds(t)
	}
}

// Look leaves the replica as it was, whatever the kind is.
func TestP123LookOfWrites(t *testing.T) {
	for _, ahead := range []string{"", abc, midst, waiting, sites} {
		p := behind(t, 3, ahead)
		for _, c := range p.m.calls() {
			first := p.r.Look(c)
			if again := p.r.Look(c); again != first {
				t.Fatalf("%+v, behind %s: %+v, and then %+v", c, ahead, first, again)
			}
			same(t, p.r, p.m)
		}
		p.holds(t)
	}
}
