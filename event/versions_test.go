package event_test

import (
	"math/rand"
	"slices"
	"strings"
	"testing"

	"selvedge/api"
	"selvedge/event"
	"selvedge/id"
	"selvedge/op"
	"selvedge/version"
)

// tale is the versions that calls led to, one behind the other, and all that they
// told; heard is how many changes had been told by each version.
type tale struct {
	versions []version.Version
	heard    []int
	told     []any
}

// newTale is the tale of a version alone.
func newTale(v version.Version) *tale {
	return &tale{versions: []version.Version{v}, heard: []int{0}}
}

// last is the version behind all calls.
func (a *tale) last() version.Version { return a.versions[len(a.versions)-1] }

// goOn has one more call's answer follow.
func (a *tale) goOn(v version.Version, l []version.Change) {
	for _, c := range l {
		a.told = append(a.told, c)
	}
	a.versions = append(a.versions, v)
	a.heard = append(a.heard, len(a.told))
}

// leads holds the changes from one of the versions up to another one against both.
func (a *tale) leads(t *testing.T, from, to int) {
	t.Helper()
	v, w := a.versions[from], a.versions[to]
	l := a.told[a.heard[from]:a.heard[to]]
	if n, e := event.Follow(v.Seq(), l); n != w.Seq() || e != api.OK {
		t.Fatalf("%s behind the Seq %d: %d, %v, not %d", story(l), v.Seq(), n, e, w.Seq())
	}
	if s, e := event.Replay(v.Text(), l); s != w.Text() || e != api.OK {
		t.Fatalf("%s behind %q: %q, %v, not %q", story(l), v.Text(), s, e, w.Text())
	}
}

// holds asks for the tale from its beginning on, and from each call and from others
// in the midst up to its end.
func (a *tale) holds(t *testing.T) {
	t.Helper()
	end := len(a.versions) - 1
	for i := range a.versions {
		a.leads(t, 0, i)
		a.leads(t, i, end)
		a.leads(t, i/2, i)
		if i > 0 {
			a.leads(t, i-1, i)
		}
	}
}

// story is the text of each event.
func story(l []any) string {
	var s []string
	for _, x := range l {
		s = append(s, event.Text(x))
	}
	return strings.Join(s, ", ")
}

// remote tells the last version of an operation, which mustn't be refused.
func (a *tale) remote(t *testing.T, text string) {
	t.Helper()
	o, e := op.Parse(text)
	if e != api.OK {
		t.Fatalf("Parse(%q): %v", text, e)
	}
	v, l, e := a.last().Remote(o)
	if e != api.OK {
		t.Fatalf("Remote(%v): %v", o, e)
	}
	a.goOn(v, l)
}

func TestP93Tables(t *testing.T) {
	for _, c := range []struct{ name, ops, story, text string }{
		{"nothing at all", "", "", ""},
		{"one", "+1.1 - 61", "1 +0 1.1", "a"},
		{"in and out", "+1.1 - 61, +2.1 1.1 62, -1.1", "1 +0 1.1, 2 +1 2.1, 3 -0 1.1", "b"},
		{"between others", "+1.1 - 61, +2.1 1.1 62, +2.2 1.1 65e5", "1 +0 1.1, 2 +1 2.1, 3 +1 2.2", "a日b"},
		{"it waits", "+2.1 1.1 62", "", ""},
		{"it waited", "+2.1 1.1 62, +1.1 - 61", "1 +0 1.1, 2 +1 2.1", "ab"},
		{"its own Delete waited", "-1.1, +1.1 - 61", "1 +0 1.1, 2 -0 1.1", ""},
		{"many waited", "-3.1, +3.1 2.1 e9, -2.1, +2.1 1.1 62, +4.1 3.1 1f600, +1.1 - 61", "1 +0 1.1, 2 +1 2.1, 3 +2 3.1, 4 -2 3.1, 5 -1 2.1, 6 +1 4.1", "a\U0001f600"},
		{"one waited, and was gone", "+3.1 2.1 63, +4.1 3.1 64, -3.1, +3.1 - 65", "1 +0 3.1, 2 +1 4.1, 3 -0 3.1", "d"},
		{"some waited behind others", "+1.1 - 61, +4.1 3.1 64, +2.2 1.1 62, -2.2, +3.1 2.2 63", "1 +0 1.1, 2 +1 2.2, 3 -1 2.2, 4 +1 3.1, 5 +2 4.1", "acd"},
	} {
		t.Run(c.name, func(t *testing.T) {
			a := newTale(version.Version{})
			for _, o := range strings.Split(c.ops, ", ") {
				if o != "" {
					a.remote(t, o)
				}
			}
			a.holds(t)
			if got := story(a.told); got != c.story || a.last().Text() != c.text {
				t.Errorf("%s, %q, not %s, %q", got, a.last().Text(), c.story, c.text)
			}
		})
	}
}

// chars are such as take one byte, and more.
func chars() []rune {
	return []rune{' ', 'a', 'b', 0x7f, 0x80, 'é', '日', 0xfffd, 0x1f600, 0x10ffff}
}

// anyRemote is an operation behind ids of small numbers, be they there or not.
func anyRemote(random *rand.Rand) op.Op {
	a := mk(int64(random.Intn(40)+1), random.Intn(3)+1)
	if random.Intn(3) == 0 {
		return op.Op{Kind: op.Delete, ID: a}
	}
	o := op.Op{Kind: op.Insert, ID: a, Char: chars()[random.Intn(len(chars()))]}
	if a.Counter > 1 && random.Intn(4) > 0 {
		o.Anchor = mk(a.Counter-1-int64(random.Intn(min(3, int(a.Counter)-1))), random.Intn(3)+1)
	}
	return o
}

// step is one more call of some kind, be it refused or not.
func (a *tale) step(random *rand.Rand) {
	v := a.last()
	// beyond both ends, too
	at := random.Intn(v.Len()+4) - 1
	var l []version.Change
	switch random.Intn(10) {
	case 0:
		v, _, l, _ = v.Insert(random.Intn(4), at, chars()[random.Intn(len(chars()))])
	case 1:
		v, _, l, _ = v.Delete(at)
	default:
		v, l, _ = v.Remote(anyRemote(random))
	}
	a.goOn(v, l)
}

// several is how many of the calls told more than one change.
func (a *tale) several() int {
	n := 0
	for i := range a.heard[1:] {
		if a.heard[i+1]-a.heard[i] > 1 {
			n++
		}
	}
	return n
}

// Tales of any calls, and tales that go on from the midst of others.
func TestP93ManyVersions(t *testing.T) {
	several, dead := 0, 0
	for seed := range int64(40) {
		random := rand.New(rand.NewSource(seed))
		a := newTale(version.Version{})
		for range 250 {
			a.step(random)
		}
		a.holds(t)
		b := newTale(a.versions[random.Intn(len(a.versions))])
		for range 150 {
			b.step(random)
		}
		b.holds(t)
		several += a.several() + b.several()
		for _, c := range event.Changes(a.told) {
			if c.Del {
				dead++
			}
		}
	}
	if several < 100 || dead < 100 {
		t.Errorf("only %d calls told several changes, and only %d changes took out", several, dead)
	}
}

// From each change on, those of the same call among them, up to each other one.
func TestP93FromEachChange(t *testing.T) {
	for seed := range int64(10) {
		random := rand.New(rand.NewSource(100 + seed))
		a := newTale(version.Version{})
		for range 120 {
			a.step(random)
		}
		for i := range a.told {
			ahead, e := event.Replay("", a.told[:i])
			if e != api.OK {
				t.Fatalf("%s: %v", story(a.told[:i]), e)
			}
			if n, e := event.Follow(int64(i), a.told[i:]); n != a.last().Seq() || e != api.OK {
				t.Fatalf("%s behind the Seq %d: %d, %v", story(a.told[i:]), i, n, e)
			}
			if s, e := event.Replay(ahead, a.told[i:]); s != a.last().Text() || e != api.OK {
				t.Fatalf("%s behind %q: %q, %v", story(a.told[i:]), ahead, s, e)
			}
		}
	}
}

// Without one of them, or with one twice, they don't follow; with a Lag for some of
// them they follow, but can't be replayed.
func TestP93WithoutSome(t *testing.T) {
	random := rand.New(rand.NewSource(7))
	a := newTale(version.Version{})
	for range 150 {
		a.step(random)
	}
	end := a.last().Seq()
	for i := range a.told {
		if i+1 < len(a.told) {
			without := slices.Delete(slices.Clone(a.told), i, i+1)
			if n, e := event.Follow(0, without); n != 0 || e != api.ErrOrder {
				t.Errorf("without the %d-th: %d, %v", i, n, e)
			}
		}
		twice := slices.Insert(slices.Clone(a.told), i, a.told[i])
		if n, e := event.Follow(0, twice); n != 0 || e != api.ErrOrder {
			t.Errorf("with the %d-th twice: %d, %v", i, n, e)
		}
		for to := i; to < min(len(a.told), i+3); to++ {
			skipped := slices.Replace(slices.Clone(a.told), i, to+1, any(lag(int64(i+1), int64(to+1))))
			if n, e := event.Follow(0, skipped); n != end || e != api.OK {
				t.Errorf("with a Lag of the %d-th to the %d-th: %d, %v", i, to, n, e)
			}
			if s, e := event.Replay("", skipped); s != "" || e != api.ErrState {
				t.Errorf("with a Lag of the %d-th to the %d-th: %q, %v", i, to, s, e)
			}
		}
	}
}

// As many elements as there may be come, and die.
func TestP93FullElements(t *testing.T) {
	random := rand.New(rand.NewSource(3))
	a := newTale(version.Version{})
	for range api.MaxElems {
		v, _, l, e := a.last().Insert(random.Intn(api.MaxSite)+1, random.Intn(a.last().Len()+1), chars()[random.Intn(len(chars()))])
		if e != api.OK {
			t.Fatal(e)
		}
		a.goOn(v, l)
	}
	full := len(a.versions) - 1
	for a.last().Len() > 0 {
		v, _, l, e := a.last().Delete(random.Intn(a.last().Len()))
		if e != api.OK {
			t.Fatal(e)
		}
		a.goOn(v, l)
	}
	end := len(a.versions) - 1
	a.leads(t, 0, full)
	a.leads(t, full, end)
	a.leads(t, 0, end)
	a.leads(t, full/2, full+full/3)
}

// The changes of a whole room that waited for one operation, told by one call.
func TestP93FullRoom(t *testing.T) {
	a := newTale(version.Version{})
	for i := range api.MaxPending {
		o := op.Op{Kind: op.Insert, ID: mk(int64(api.MaxPending-i+1), 1), Anchor: mk(int64(api.MaxPending-i), 1), Char: chars()[i%len(chars())]}
		a.remote(t, o.String())
	}
	if len(a.told) != 0 {
		t.Fatalf("told %s", story(a.told))
	}
	a.remote(t, op.Op{Kind: op.Insert, ID: mk(1, 1), Anchor: id.ID{}, Char: '日'}.String())
	if len(a.told) != api.MaxPending+1 || a.several() != 1 {
		t.Fatalf("told %s", story(a.told))
	}
	a.holds(t)
}
