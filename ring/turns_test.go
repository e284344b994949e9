package ring_test

import (
	"math"
	"math/rand"
	"slices"
	"testing"

	"selvedge/api"
	"selvedge/event"
	"selvedge/ring"
	"selvedge/version"
)

// turns is a buffer, all changes that were put into it, and all that was taken of it
// part by part.
type turns struct {
	from  int64
	b     ring.Buffer
	put   []any
	taken []any
}

// begin is a buffer into which changes shall come that follow a Seq.
func begin(t *testing.T, size int, from int64) *turns {
	t.Helper()
	return &turns{from: from, b: empty(t, size)}
}

// next puts the changes that follow.
func (a *turns) next(n int) {
	for range n {
		c := change(a.from + int64(len(a.put)) + 1)
		a.b, a.put = a.b.Put(c), append(a.put, c)
	}
}

// take takes a part.
func (a *turns) take(most int) {
	b, l := a.b.Take(most)
	a.b, a.taken = b, append(a.taken, l...)
}

// holds asks that all that was taken, and all that is left behind it, follow; that
// they lead to the last change; and that they are all changes, if none was skipped.
func (a *turns) holds(t *testing.T) {
	t.Helper()
	if _, e := event.Follow(a.from, a.taken); e != api.OK {
		t.Fatalf("taken behind the Seq %d: %s: %v", a.from, story(a.taken), e)
	}
	l := slices.Concat(a.taken, all(a.b))
	if seq, e := event.Follow(a.from, l); seq != a.from+int64(len(a.put)) || e != api.OK {
		t.Fatalf("of %d behind the Seq %d: %s: %d, %v", len(a.put), a.from, story(l), seq, e)
	}
	if !hasLag(l) && !slices.Equal(l, a.put) {
		t.Fatalf("no Lag is among %s, and they aren't %s", story(l), story(a.put))
	}
	for i, e := range l {
		if c, ok := e.(version.Change); ok && c != change(c.Seq) {
			t.Fatalf("the %d-th of %s is another change: %v", i, story(l), c)
		}
	}
}

func hasLag(l []any) bool {
	return slices.ContainsFunc(l, func(e any) bool { return event.Kind(e) == "lag" })
}

func TestP102Example(t *testing.T) {
	a := begin(t, 2, 0)
	a.next(4)
	a.holds(t)
	a.take(1)
	a.take(1)
	a.holds(t)
	if !slices.Equal(a.taken, []any{change(1), lag(2, 4)}) {
		t.Errorf("taken: %s", story(a.taken))
	}
}

// Changes come and parts go, in turns of each length.
func TestP102EachTurn(t *testing.T) {
	for _, size := range []int{1, 2, 3, 5, 63, 64} {
		for come := range 9 {
			for part := range 9 {
				for _, from := range []int64{0, 1, 41, 1 << 40} {
					a := begin(t, size, from)
					for range 20 {
						a.next(come)
						a.holds(t)
						a.take(part)
						a.holds(t)
					}
				}
			}
		}
	}
}

// Where there is room for all that comes between two parts, nothing is skipped.
func TestP102NoLag(t *testing.T) {
	for size := 1; size <= api.MaxRing; size++ {
		a := begin(t, size, int64(size))
		for i := range 2 * size {
			a.next(1 + i%size)
			a.take(size)
			a.holds(t)
		}
		if hasLag(a.taken) || !slices.Equal(a.taken, a.put) {
			t.Fatalf("of Size %d was taken %s", size, story(a.taken))
		}
	}
}

// A buffer that is filled to its end, never beyond, tells of all changes, however
// few are taken.
func TestP102RoomOfOne(t *testing.T) {
	for _, size := range []int{1, 2, 3, 64} {
		a := begin(t, size, 0)
		a.next(size)
		for range 200 {
			a.take(1)
			a.next(1)
			a.holds(t)
		}
		a.take(math.MaxInt)
		if !slices.Equal(a.taken, a.put) {
			t.Fatalf("of Size %d was taken %s", size, story(a.taken))
		}
	}
}

// Where one more comes than there is room for, what was skipped is told once.
func TestP102OneTooMany(t *testing.T) {
	for size := 1; size <= api.MaxRing; size++ {
		a := begin(t, size, 0)
		a.next(size + 1)
		a.take(size)
		a.next(size)
		a.take(size)
		a.holds(t)
		n := int64(size)
		if len(a.taken) != 2*size || a.taken[size-1] != any(lag(n, n+1)) || hasLag(a.taken[size:]) {
			t.Fatalf("of Size %d was taken %s", size, story(a.taken))
		}
	}
}

// The last Seqs of all can be put, too.
func TestP102LastSeqs(t *testing.T) {
	for size := 1; size <= 9; size++ {
		a := begin(t, size, math.MaxInt64-8)
		a.next(5)
		a.take(2)
		a.next(3)
		a.take(1)
		a.holds(t)
	}
}

func TestP102RandomTurns(t *testing.T) {
	r := rand.New(rand.NewSource(102))
	for range 400 {
		a := begin(t, 1+r.Intn(api.MaxRing), r.Int63n(1000))
		for range 40 {
			if r.Intn(2) == 0 {
				a.next(r.Intn(30))
			} else {
				a.take(r.Intn(40) - 5)
			}
			a.holds(t)
		}
	}
}

// Of a version's changes what is taken replays its text, where no Lag is among it.
func TestP102ReplaysVersion(t *testing.T) {
	r := rand.New(rand.NewSource(8))
	for _, size := range []int{1, 2, 4, 16, 64} {
		var v version.Version
		b := empty(t, size)
		var taken []any
		for range 300 {
			var l []version.Change
			if v.Len() > 0 && r.Intn(3) == 0 {
				v, _, l, _ = v.Delete(r.Intn(v.Len()))
			} else {
				v, _, l, _ = v.Insert(1, r.Intn(v.Len()+1), 'a'+rune(r.Intn(26)))
			}
			for _, c := range l {
				b = b.Put(c)
			}
			if b.Len() == size || r.Intn(2) == 0 {
				var part []any
				b, part = b.Take(size)
				taken = append(taken, part...)
			}
		}
		taken = append(taken, all(b)...)
		if s, e := event.Replay("", taken); s != v.Text() || e != api.OK {
			t.Errorf("by Size %d: %q, %v, not %q", size, s, e, v.Text())
		}
	}
}
