package race_test

import (
	"math"
	"slices"
	"testing"

	"selvedge/api"
	"selvedge/race"
)

func TestP141Kinds(t *testing.T) {
	if race.Read != 0 || race.Write != 1 || race.Acquire != 2 || race.Release != 3 {
		t.Error(race.Read, race.Write, race.Acquire, race.Release)
	}
}

// TestP141First: i and k are -1 where there is no race.
func TestP141First(t *testing.T) {
	for _, c := range []struct {
		name, trace string
		i, k        int
	}{
		{"the document's example, without signs", "0w7 1r7", 0, 1},
		{"the document's example, with a sign", "0w7 0l1 1a1 1r7", -1, -1},
		{"without acts", "", -1, -1},
		{"one act", "0w7", -1, -1},
		{"of one thread", "0w7 0w7 0r7 0w7", -1, -1},

		{"a Write and a Read", "0w7 1r7", 0, 1},
		{"a Read and a Write", "0r7 1w7", 0, 1},
		{"Writes", "0w7 1w7", 0, 1},
		{"Reads", "0r7 1r7 2r7 0r7", -1, -1},
		{"of two places", "0w7 1w8 2r9", -1, -1},
		{"of the last threads", "14w7 15w7", 0, 1},
		{"of the first and the last thread", "15r7 0w7", 0, 1},
		{"all threads read", "0r1 1r1 2r1 3r1 4r1 5r1 6r1 7r1 8r1 9r1 10r1 11r1 12r1 13r1 14r1 15r1", -1, -1},
		{"and one writes", "1r1 2r1 3r1 4r1 5r1 6r1 7r1 8r1 9r1 10r1 11r1 12r1 13r1 14r1 15r1 0w1", 0, 15},

		{"signs aren't places", "0a7 1l7 2a7 1l7 0w7 0l7 1l7", -1, -1},
		{"a place and a sign of one number", "0w7 1a7 1l7 0a7", -1, -1},
		{"a place's number doesn't order", "0w7 0w1 1r1 1r7", 1, 2},
		{"of another sign", "0w7 0l1 1a2 1r7", 0, 3},
		{"the Acquire ahead of the Release", "0w7 1a1 0l1 1r7", 0, 3},
		{"a Release alone", "0w7 0l1 1r7", 0, 2},
		{"an Acquire alone", "0w7 1a1 1r7", 0, 2},
		{"two Releases", "0w7 0l1 1l1 1r7", 0, 3},
		{"two Acquires", "0w7 0a1 1a1 1r7", 0, 3},
		{"the Acquire by a third one", "0w7 0l1 2a1 1r7", 0, 3},
		{"the Release by a third one", "0w7 2l1 1a1 1r7", 0, 3},
		{"the Write behind the Release", "0l1 0w7 1a1 1r7", 1, 3},
		{"the Read ahead of the Acquire", "0w7 0l1 1r7 1a1", 0, 2},
		{"Reads let go, too", "0r7 0l1 1a1 1w7", -1, -1},

		{"by a third one", "0w7 0l1 1a1 1l2 2a2 2w7", -1, -1},
		{"by a third one, of one sign", "0w7 0l1 1a1 1l1 2a1 2w7", -1, -1},
		{"by a third one that lets go first", "0w7 1l2 0l1 1a1 2a2 2w7", 0, 5},
		{"by six", "0w7 0l0 1a0 1l1 2a1 2l2 3a2 3l3 4a3 4l4 15a4 15r7", -1, -1},
		{"a sign knows all its Releases", "0w7 0l1 1w8 1l1 2a1 2w7 2w8", -1, -1},
		{"an elder Release, a younger one of another one", "0w7 0l1 1l1 2a1 2r7", -1, -1},
		{"the younger Release tells no less", "0w7 0l1 0w8 0l1 1a1 1r8 1r7", -1, -1},
		{"one Release, many Acquires", "0w7 0l1 1a1 2a1 3a1 1r7 2r7 3r7", -1, -1},
		{"a thread keeps what it knew", "0w7 0l1 1a1 1a2 1l3 1w9 1r7", -1, -1},
		{"a lock goes round", "0a1 0r7 0w7 0l1 1a1 1r7 1w7 1l1 0a1 0r7 0w7 0l1 2a1 2w7 2l1", -1, -1},

		{"the later one as early as can be", "0w7 0w8 1r8 1r7", 1, 2},
		{"of two races, one within the other one", "0w7 1w8 2r8 1r7", 1, 2},
		{"the earlier one, too", "0w7 0w7 0r7 1w7", 0, 3},
		{"the earlier one of two threads", "2r7 1r7 0w7", 0, 2},
		{"the earlier one, a Read", "0r7 0w7 1w7", 0, 2},
		{"the earlier one, but no Read", "0r7 0w7 1r7", 1, 2},
		{"the earlier one, behind one that is known", "0w7 0l1 0w7 1a1 1w7", 2, 4},
		{"the earlier one, behind those of others that are known", "0r7 0l1 1a1 1r7 2r7 0r7 1w7", 4, 6},
		{"the earlier one, behind one's own", "1r7 0r7 1w7", 1, 2},
		{"another place's ahead", "0w8 0r7 1w7", 1, 2},
		{"a sign's acts ahead", "0l7 0a7 0r7 1w7", 2, 3},
		{"the first race alone", "0w7 1w7 2w7 3w7", 0, 1},
		{"a Read that is known, a Write that isn't", "0r7 0l1 2w8 1a1 1w7 1w8", 2, 5},
		{"a Write that is known, a Read that isn't", "0w7 0l1 1a1 2a1 2r7 1w7", 4, 5},
		{"that Read doesn't matter to a Read", "0w7 0l1 1a1 2a1 2r7 1r7", -1, -1},
		{"Reads of two, one is known", "0r7 1r7 0l1 2a1 2w7", 1, 4},
		{"Reads of two, the other one is known", "0r7 1r7 1l1 2a1 2w7", 0, 4},
		{"Reads of two, both are known", "0r7 1r7 1l1 0l1 2a1 2w7", -1, -1},
		{"an elder Read of a thread that wrote elsewhere", "0r7 1w9 0r7 0l1 2a1 2w7", -1, -1},
		{"an elder Write is known, as a younger one is", "0w7 0w7 0l1 1a1 1r7", -1, -1},
	} {
		t.Run(c.name, func(t *testing.T) {
			want := api.OK
			if c.k >= 0 {
				want = api.ErrRace
			}
			if i, k, e := race.First(trace(c.trace)); i != c.i || k != c.k || e != want {
				t.Errorf("First of %s: %d %d %v, not %d %d %v", c.trace, i, k, e, c.i, c.k, want)
			}
			of(trace(c.trace)).holds(t)
		})
	}
}

// TestP141AnyLoc: places and signs may have any numbers, and are told apart by all of them.
func TestP141AnyLoc(t *testing.T) {
	locs := []int{0, 1, -1, 15, 16, -16, 1 << 32, 1<<32 + 1, -1 << 32, math.MaxInt32, math.MinInt32, math.MaxInt, math.MaxInt - 1, math.MinInt, math.MinInt + 1}
	for _, place := range locs {
		for _, other := range locs {
			of([]race.Act{{0, race.Write, place}, {1, race.Write, other}}).holds(t)
			of([]race.Act{{0, race.Write, place}, {1, race.Read, other}}).holds(t)
			of([]race.Act{{0, race.Read, place}, {1, race.Write, other}}).holds(t)
			of([]race.Act{{0, race.Write, 7}, {0, race.Release, place}, {1, race.Acquire, other}, {1, race.Read, 7}}).holds(t)
		}
		if i, k, e := race.First([]race.Act{{0, race.Write, place}, {1, race.Write, place}}); i != 0 || k != 1 || e != api.ErrRace {
			t.Errorf("Writes of the place %d: %d %d %v", place, i, k, e)
		}
	}
}

// noActs are acts that are none, by their Thread, or their Kind, or both.
func noActs() []race.Act {
	l := []race.Act{{16, 9, 7}, {-1, -1, 7}}
	for _, n := range []int{-1, 16, 17, 31, 32, 64, 256, -16, 1 << 32, -1 << 32, math.MaxInt32, math.MinInt32, math.MaxInt, math.MinInt} {
		for kind := race.Read; kind <= race.Release; kind++ {
			l = append(l, race.Act{Thread: n, Kind: kind, Loc: 7})
		}
	}
	for _, n := range []race.Kind{-1, -2, 4, 5, 16, 256, 257, 1 << 32, 1<<32 + 1, -1 << 32, math.MaxInt, math.MinInt} {
		for _, thread := range []int{0, 1, 15} {
			l = append(l, race.Act{Thread: thread, Kind: n, Loc: 7})
		}
	}
	return l
}

// TestP141NoAct: an act that is none, wherever it stands in a trace that had no race,
// or one, ahead of it or behind.
func TestP141NoAct(t *testing.T) {
	for _, text := range []string{"", "0w7", "0w7 0l1 1a1 1r7", "0w7 1w7", "0r7 0w7 2r8 1r8 1w8", "0w7 0r7"} {
		for _, a := range noActs() {
			l := trace(text)
			for at := range len(l) + 1 {
				bad := slices.Insert(slices.Clone(l), at, a)
				if i, k, e := race.First(bad); i != -1 || k != -1 || e != api.ErrForm {
					t.Errorf("First of %s with %+v at %d: %d %d %v", text, a, at, i, k, e)
				}
				for k := range len(bad) + 1 {
					if got := race.Seen(bad, k); got != -1 {
						t.Errorf("Seen of %s with %+v at %d, at %d: %d", text, a, at, k, got)
					}
					for i := range len(bad) + 1 {
						if race.Ahead(bad, i, k) {
							t.Errorf("Ahead of %s with %+v at %d: %d of %d", text, a, at, i, k)
						}
					}
				}
				of(bad).holds(t)
			}
		}
	}
}

// TestP141EachThread: each thread from 0 to 15 is one, and is told apart from each other.
func TestP141EachThread(t *testing.T) {
	for a := range 16 {
		for b := range 16 {
			of([]race.Act{{a, race.Write, 7}, {b, race.Write, 7}}).holds(t)
			of([]race.Act{{a, race.Write, 7}, {a, race.Release, 1}, {b, race.Acquire, 1}, {b, race.Read, 7}}).holds(t)
			for c := range 16 {
				of([]race.Act{{a, race.Write, 7}, {b, race.Release, 1}, {c, race.Acquire, 1}, {c, race.Write, 7}}).holds(t)
			}
		}
	}
}

func TestP141Ahead(t *testing.T) {
	for _, c := range []struct {
		name, trace string
		i, k        int
		want        bool
	}{
		{"of one thread", "0w7 1r8 0r9", 0, 2, true},
		{"of one thread, the later one first", "0w7 1r8 0r9", 2, 0, false},
		{"an act and itself", "0w7 0w7", 1, 1, false},
		{"of two threads", "0w7 1r7", 0, 1, false},
		{"of two threads, the other way", "0w7 1r7", 1, 0, false},
		{"a Release and an Acquire", "0l1 1a1", 0, 1, true},
		{"a Release and an Acquire, the later one first", "0l1 1a1", 1, 0, false},
		{"an Acquire and a Release", "0a1 1l1", 0, 1, false},
		{"a Release and an Acquire of two signs", "0l1 1a2", 0, 1, false},
		{"a Release and a Release", "0l1 1l1", 0, 1, false},
		{"an Acquire and an Acquire", "0a1 1a1", 0, 1, false},
		{"a Release, and what is behind the Acquire", "0l1 1a1 1w7", 0, 2, true},
		{"a Release, and what is ahead of the Acquire", "0l1 1w7 1a1", 0, 1, false},
		{"what is ahead of the Release", "0w7 0l1 1a1", 0, 2, true},
		{"what is behind the Release", "0l1 0w7 1a1", 1, 2, false},
		{"an elder Release of the sign", "0l1 2l1 1a1", 0, 2, true},
		{"a younger Acquire of the sign", "0l1 2a1 1a1", 0, 2, true},
		{"one Acquire and another one", "0l1 2a1 1a1", 1, 2, false},
		{"by a third thread", "0w7 0l1 1a1 1l2 2a2 2r7", 0, 5, true},
		{"by a third thread, from its Acquire on", "0w7 0l1 1a1 1l2 2a2 2r7", 2, 4, true},
		{"by a third thread, that lets go too early", "0w7 1l2 0l1 1a1 2a2 2r7", 0, 5, false},
		{"though others race", "0w7 1w7 0l1 2a1", 0, 3, true},
		{"though they race", "0w7 1w7 0l1 2a1", 1, 3, false},
		{"the example, in order", "0w7 0l1 1a1 1r7 2r8", 0, 3, true},
		{"the example, another thread", "0w7 0l1 1a1 1r7 2r8", 0, 4, false},

		{"below 0", "0w7 0w7 0w7", -1, 1, false},
		{"the later one below 0", "0w7 0w7 0w7", 1, -1, false},
		{"one more than there are", "0w7 0w7 0w7", 1, 3, false},
		{"the earlier one, one more than there are", "0w7 0w7 0w7", 3, 4, false},
		{"the last two", "0w7 0w7 0w7", 1, 2, true},
		{"the greatest", "0w7 0w7 0w7", 0, math.MaxInt, false},
		{"the least", "0w7 0w7 0w7", math.MinInt, 1, false},
		{"both ends", "0w7 0w7 0w7", math.MinInt, math.MaxInt, false},
		{"without acts", "", 0, 0, false},
		{"without acts, two places", "", 0, 1, false},
		{"without acts, one below 0", "", -1, 0, false},
	} {
		t.Run(c.name, func(t *testing.T) {
			if got := race.Ahead(trace(c.trace), c.i, c.k); got != c.want {
				t.Errorf("Ahead of %s, %d and %d: %v", c.trace, c.i, c.k, got)
			}
		})
	}
}

func TestP142Seen(t *testing.T) {
	for _, c := range []struct {
		name, trace string
		k, want     int
	}{
		{"its own Write", "0w7 0r7", 1, 0},
		{"the last of its own", "0w7 0w7 0r7 0w7", 2, 1},
		{"another thread's", "0w7 0l1 1a1 1r7", 3, 0},
		{"the last of two threads'", "0w7 0l1 1a1 1w7 1l1 2a1 2r7", 6, 3},
		{"past a Write of another place", "0w7 0w8 0r7", 2, 0},
		{"past a Read", "0w7 0r7 0r7", 2, 0},
		{"past acts of signs of that number", "0w7 0l7 0a7 0r7", 3, 0},
		{"the first place of the trace", "0w0 0r0", 1, 0},
		{"no Write of its place", "0w8 0r7", 1, -1},
		{"the Write behind it", "0r7 0w7", 0, -1},
		{"no other act", "0r7", 0, -1},
		{"a Write", "0w7 0w7", 1, -1},
		{"an Acquire", "0w7 0l7 0a7", 2, -1},
		{"a Release", "0w7 0l7", 1, -1},
		{"a race ahead", "1w8 2w8 0w7 0r7", 3, -1},
		{"a race behind", "0w7 0r7 1w8 2w8", 1, -1},
		{"its own race", "0w7 1r7", 1, -1},
		{"below 0", "0w7 0r7", -1, -1},
		{"one more than there are", "0w7 0r7", 2, -1},
		{"the greatest", "0w7 0r7", math.MaxInt, -1},
		{"the least", "0w7 0r7", math.MinInt, -1},
		{"without acts", "", 0, -1},
	} {
		t.Run(c.name, func(t *testing.T) {
			if got := race.Seen(trace(c.trace), c.k); got != c.want {
				t.Errorf("Seen of %s at %d: %d, not %d", c.trace, c.k, got, c.want)
			}
		})
	}
}

// scribbled is a trace in the midst of a longer array, and that array.
func scribbled(l []race.Act) (piece, whole []race.Act) {
	whole = slices.Repeat([]race.Act{{9, race.Write, 7}}, len(l)+8)
	piece = whole[4 : 4+len(l)]
	copy(piece, l)
	return piece, whole
}

// TestR3TracesStay: what is handed in isn't changed, nor is what stands behind its end
// looked at.
func TestR3TracesStay(t *testing.T) {
	for _, text := range []string{"", "0w7", "0r7 0r7", "0w7 0l1 1a1 1r7", "0w7 1w7", "16w7 0w7", "0w7 0r7 1l7"} {
		piece, whole := scribbled(trace(text))
		before := slices.Clone(whole)
		m := of(trace(text))
		m.l = piece
		m.holds(t)
		m.holds(t)
		if !slices.Equal(whole, before) {
			t.Errorf("%s became %s", story(before), story(whole))
		}
	}
}

// TestR4NilAndEmpty: nil and empty traces are one.
func TestR4NilAndEmpty(t *testing.T) {
	for _, l := range [][]race.Act{nil, {}} {
		if i, k, e := race.First(l); i != -1 || k != -1 || e != api.OK {
			t.Error(i, k, e)
		}
		of(l).holds(t)
	}
}
