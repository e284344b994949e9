package race_test

import (
	"math/rand"
	"strconv"
	"strings"
	"testing"

	"selvedge/api"
	"selvedge/race"
)

// trace is a trace by its acts' texts: the Thread, r, w, a or l (a Release, which lets
// go), and the Loc, with blanks between them.
func trace(text string) []race.Act {
	var l []race.Act
	for _, word := range strings.Fields(text) {
		k := strings.IndexAny(word, "rwal")
		thread, _ := strconv.Atoi(word[:k])
		loc, _ := strconv.Atoi(word[k+1:])
		l = append(l, race.Act{Thread: thread, Kind: race.Kind(strings.IndexByte("rwal", word[k])), Loc: loc})
	}
	return l
}

// story is a trace's text, as trace reads it.
func story(l []race.Act) string {
	var s []string
	for _, a := range l {
		kind := "?"
		if a.Kind >= 0 && a.Kind < 4 {
			kind = "rwal"[a.Kind : a.Kind+1]
		}
		s = append(s, strconv.Itoa(a.Thread)+kind+strconv.Itoa(a.Loc))
	}
	return strings.Join(s, " ")
}

// model is a trace and what happens ahead of what in it, told without clocks: for each
// act all those that happen ahead of it, as the chapter's head has them.
type model struct {
	l     []race.Act
	ahead [][]bool
}

// none says whether an act is none.
func none(a race.Act) bool {
	switch a.Kind {
	case race.Read, race.Write, race.Acquire, race.Release:
		return a.Thread < 0 || a.Thread > 15
	}
	return true
}

// of is a trace's model; nothing happens ahead of anything, if an act is none.
func of(l []race.Act) model {
	m := model{l: l, ahead: make([][]bool, len(l))}
	formed := m.formed()
	for k := range l {
		m.ahead[k] = make([]bool, len(l))
		for i := k - 1; formed && i >= 0; i-- {
			if !m.ahead[k][i] && direct(l[i], l[k]) {
				m.ahead[k][i] = true
				for j := range i {
					m.ahead[k][j] = m.ahead[k][j] || m.ahead[i][j]
				}
			}
		}
	}
	return m
}

// direct says whether an act happens ahead of a later one by no other act between.
func direct(a, b race.Act) bool {
	return a.Thread == b.Thread || a.Kind == race.Release && b.Kind == race.Acquire && a.Loc == b.Loc
}

// formed says whether no act is none.
func (m model) formed() bool {
	for _, a := range m.l {
		if none(a) {
			return false
		}
	}
	return true
}

// races says whether the acts at two places race, the first of which is the earlier one.
func (m model) races(i, k int) bool {
	a, b := m.l[i], m.l[k]
	if a.Kind > race.Write || b.Kind > race.Write || a.Loc != b.Loc {
		return false
	}
	return (a.Kind == race.Write || b.Kind == race.Write) && !m.ahead[k][i]
}

// first is what First must answer.
func (m model) first() (int, int, api.Errno) {
	if !m.formed() {
		return -1, -1, api.ErrForm
	}
	for k := range m.l {
		for i := range k {
			if m.races(i, k) {
				return i, k, api.ErrRace
			}
		}
	}
	return -1, -1, api.OK
}

// seen is what Seen must answer of a trace of which First's error is this.
func (m model) seen(k int, e api.Errno) int {
	last := -1
	if e != api.OK || k < 0 || k >= len(m.l) || m.l[k].Kind != race.Read {
		return last
	}
	for i := range k {
		if m.l[i].Kind == race.Write && m.l[i].Loc == m.l[k].Loc && m.ahead[k][i] {
			last = i
		}
	}
	return last
}

// firstIs holds First against the model, and is its error.
func (m model) firstIs(t *testing.T) api.Errno {
	t.Helper()
	wantI, wantK, want := m.first()
	if i, k, e := race.First(m.l); i != wantI || k != wantK || e != want {
		t.Fatalf("First of %s: %d %d %v, not %d %d %v", story(m.l), i, k, e, wantI, wantK, want)
	}
	return want
}

// holds holds all calls against the model, at all places, and at some that there aren't;
// it is First's error.
func (m model) holds(t *testing.T) api.Errno {
	t.Helper()
	e := m.firstIs(t)
	for k := -1; k <= len(m.l); k++ {
		m.seenIs(t, k, e)
		for i := -1; i <= len(m.l); i++ {
			m.aheadIs(t, i, k)
		}
	}
	return e
}

// aheadIs holds Ahead against the model, at places that may be none.
func (m model) aheadIs(t *testing.T, i, k int) {
	t.Helper()
	want := i >= 0 && i < k && k < len(m.l) && m.ahead[k][i]
	if got := race.Ahead(m.l, i, k); got != want {
		t.Fatalf("Ahead of %s, %d and %d: %v", story(m.l), i, k, got)
	}
}

// seenIs holds Seen against the model, at a place that may be none.
func (m model) seenIs(t *testing.T, k int, e api.Errno) {
	t.Helper()
	if got, want := race.Seen(m.l, k), m.seen(k, e); got != want {
		t.Fatalf("Seen of %s at %d: %d, not %d", story(m.l), k, got, want)
	}
}

// acts are all acts of so many threads, places and signs, each from 0 on.
func acts(threads, places, signs int) []race.Act {
	var l []race.Act
	for thread := range threads {
		for loc := range places {
			l = append(l, race.Act{Thread: thread, Kind: race.Read, Loc: loc}, race.Act{Thread: thread, Kind: race.Write, Loc: loc})
		}
		for loc := range signs {
			l = append(l, race.Act{Thread: thread, Kind: race.Acquire, Loc: loc}, race.Act{Thread: thread, Kind: race.Release, Loc: loc})
		}
	}
	return l
}

// goAll hands on all traces of up to so many of some acts. Threads come in by rising
// numbers: which is which of them doesn't matter to what races.
func goAll(from []race.Act, most int, tell func([]race.Act)) {
	var grow func(l []race.Act, threads int)
	grow = func(l []race.Act, threads int) {
		tell(l)
		if len(l) == most {
			return
		}
		for _, a := range from {
			if a.Thread <= threads {
				grow(append(l, a), max(threads, a.Thread+1))
			}
		}
	}
	grow(make([]race.Act, 0, most), 0)
}

// wild is a trace of whatever acts of so many threads.
func wild(r *rand.Rand, n, threads, locs int) []race.Act {
	l := make([]race.Act, n)
	for i := range l {
		l[i] = race.Act{Thread: r.Intn(threads), Kind: race.Kind(r.Intn(4)), Loc: r.Intn(locs)}
	}
	return l
}

// kept is a trace of threads of which each reads and writes the places, of which there
// are as many as locks, but between an Acquire and a Release of the lock alone; one at
// a time has a lock. With slips some are done without.
func kept(r *rand.Rand, n, threads, locks, slips int) []race.Act {
	var l []race.Act
	holder := make([]int, locks)
	for len(l) < n {
		lock, thread := r.Intn(locks), r.Intn(threads)
		kind := race.Kind(r.Intn(2))
		switch {
		case slips > 0 && r.Intn(n) < slips:
			l = append(l, race.Act{Thread: thread, Kind: kind, Loc: lock})
		case holder[lock] == 0:
			holder[lock] = thread + 1
			l = append(l, race.Act{Thread: thread, Kind: race.Acquire, Loc: lock})
		case r.Intn(4) == 0:
			l = append(l, race.Act{Thread: holder[lock] - 1, Kind: race.Release, Loc: lock})
			holder[lock] = 0
		default:
			l = append(l, race.Act{Thread: holder[lock] - 1, Kind: kind, Loc: lock})
		}
	}
	return l
}
