package race_test

import (
	"math/rand"
	"testing"

	"selvedge/api"
	"selvedge/race"
)

// TestP141AllShort: all traces of up to five acts of three threads, of two places and a
// sign, or a place and two signs.
func TestP141AllShort(t *testing.T) {
	goAll(acts(3, 2, 1), 4, func(l []race.Act) { of(l).holds(t) })
	goAll(acts(3, 1, 2), 4, func(l []race.Act) { of(l).holds(t) })
	goAll(acts(3, 1, 1), 5, func(l []race.Act) { of(l).holds(t) })
}

// TestP141AllOfTwo: all traces of seven acts of two threads, of a place and a sign.
func TestP141AllOfTwo(t *testing.T) {
	goAll(acts(2, 1, 1), 7, func(l []race.Act) { of(l).firstIs(t) })
}

// TestP141Wild: traces of whatever acts, of few threads and of all.
func TestP141Wild(t *testing.T) {
	r := rand.New(rand.NewSource(14))
	for n := range 400 {
		of(wild(r, n%40, 1+n%16, 1+n%9)).holds(t)
	}
}

// TestP141Kept: threads that keep to locks have no race; those that slip mostly do.
func TestP141Kept(t *testing.T) {
	r := rand.New(rand.NewSource(141))
	raced := 0
	for n := range 200 {
		threads, locks := 1+n%16, 1+n%5
		l := kept(r, n, threads, locks, 0)
		if e := of(l).firstIs(t); e != api.OK {
			t.Fatalf("%s: %v", story(l), e)
		}
		of(l[:n/3]).holds(t)
		if of(kept(r, n, threads, locks, 3)).firstIs(t) == api.ErrRace {
			raced++
		}
	}
	if raced < 50 || raced == 200 {
		t.Errorf("%d of 200 raced", raced)
	}
}

// TestP141SameOfPieces: First's k is the first at which the trace up to it has a race.
func TestP141SameOfPieces(t *testing.T) {
	r := rand.New(rand.NewSource(1410))
	for n := range 100 {
		l := kept(r, 60, 2+n%15, 1+n%4, 2)
		wantI, wantK, want := race.First(l)
		for to := range len(l) + 1 {
			i, k, e := race.First(l[:to])
			if want == api.ErrRace && to > wantK {
				if i != wantI || k != wantK || e != want {
					t.Fatalf("First of %s: %d %d %v, not %d %d %v", story(l[:to]), i, k, e, wantI, wantK, want)
				}
			} else if i != -1 || k != -1 || e != api.OK {
				t.Fatalf("First of %s: %d %d %v", story(l[:to]), i, k, e)
			}
		}
	}
}

// sightIs holds P14.3 for one trace without races, by Ahead alone; it is how many Reads
// saw a Write.
func sightIs(t *testing.T, l []race.Act) int {
	t.Helper()
	seeing := 0
	for k, a := range l {
		if a.Kind != race.Read {
			continue
		}
		seen := race.Seen(l, k)
		if seen >= 0 {
			seeing++
			if !race.Ahead(l, seen, k) || l[seen].Kind != race.Write || l[seen].Loc != a.Loc {
				t.Fatalf("Seen of %s at %d: %d", story(l), k, seen)
			}
		}
		for w, b := range l {
			if b.Kind == race.Write && b.Loc == a.Loc && w != seen && !race.Ahead(l, w, seen) && !race.Ahead(l, k, w) {
				t.Fatalf("Seen of %s at %d is %d, but %d is neither ahead of that nor behind", story(l), k, seen, w)
			}
		}
	}
	return seeing
}

func TestP143AllShort(t *testing.T) {
	seeing := 0
	for _, some := range [][]race.Act{acts(2, 1, 1), acts(3, 1, 1), acts(2, 2, 1)} {
		goAll(some, 5, func(l []race.Act) {
			if _, _, e := race.First(l); e == api.OK {
				seeing += sightIs(t, l)
			}
		})
	}
	if seeing < 1000 {
		t.Errorf("%d Reads saw a Write", seeing)
	}
}

func TestP143Kept(t *testing.T) {
	r := rand.New(rand.NewSource(143))
	seeing := 0
	for n := range 60 {
		seeing += sightIs(t, kept(r, 80, 1+n%16, 1+n%5, 0))
	}
	if seeing < 500 {
		t.Errorf("%d Reads saw a Write", seeing)
	}
}

// TestP141Long: many acts of one place, one sign and all threads: a call that held each
// against all others would not be done.
func TestP141Long(t *testing.T) {
	const rounds = 100000
	l := make([]race.Act, 0, 4*rounds+1)
	for n := range rounds {
		thread := n % 16
		l = append(l, race.Act{Thread: thread, Kind: race.Acquire, Loc: 1}, race.Act{Thread: thread, Kind: race.Read, Loc: 7},
			race.Act{Thread: thread, Kind: race.Write, Loc: 7}, race.Act{Thread: thread, Kind: race.Release, Loc: 1})
	}
	if i, k, e := race.First(l); i != -1 || k != -1 || e != api.OK {
		t.Fatal(i, k, e)
	}
	last := len(l) - 3
	if seen := race.Seen(l, last); seen != last-3 {
		t.Errorf("the last Read sees %d, not %d", seen, last-3)
	}
	if !race.Ahead(l, 0, len(l)-1) || !race.Ahead(l, 2, last) || race.Ahead(l, last, 2) {
		t.Error("ahead")
	}
	// Thread 3 knows all up to its own last act, which was done ahead of those of 4 to 15.
	l = append(l, race.Act{Thread: 3, Kind: race.Read, Loc: 7})
	want := len(l) - 1 - 4*12 + 2
	if i, k, e := race.First(l); i != want || k != len(l)-1 || e != api.ErrRace {
		t.Errorf("%d %d %v, not %d %d", i, k, e, want, len(l)-1)
	}
}
