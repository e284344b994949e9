package vclock_test

import (
	"math/rand"
	"slices"
	"testing"

	"selvedge/vclock"
)

// The greatest number that the promises speak of.
const top = 1 << 40

// numbers are a clock's, as the chapter's head tells it: one for each thread, and 0
// where there is none. It is the model: an array has no ends to reckon with, and
// shares nothing with a clock.
type numbers [vclock.Most]int

// of are the numbers of a clock.
func of(c vclock.Clock) numbers {
	var n numbers
	copy(n[:], c)
	return n
}

// ticked are the numbers of which one is 1 more.
func (n numbers) ticked(i int) numbers {
	if i >= 0 && i < vclock.Most {
		n[i]++
	}
	return n
}

// joined are of each place the greater number.
func (n numbers) joined(m numbers) numbers {
	for i, x := range m {
		if x > n[i] {
			n[i] = x
		}
	}
	return n
}

// atMost says whether no number is greater than that of the same place.
func (n numbers) atMost(m numbers) bool {
	for i, x := range n {
		if x > m[i] {
			return false
		}
	}
	return true
}

// has asks that a clock has no more than 16 numbers, and these.
func has(t *testing.T, got vclock.Clock, want numbers) {
	t.Helper()
	if len(got) > vclock.Most || of(got) != want {
		t.Errorf("%v, not %v", got, want)
	}
}

// rows are all clocks of up to so many numbers of a set, zeros at the end among them.
func rows(most int, set ...int) []vclock.Clock {
	all := []vclock.Clock{{}}
	from := 0
	for range most {
		to := len(all)
		for _, c := range all[from:to] {
			for _, x := range set {
				all = append(all, append(slices.Clone(c), x))
			}
		}
		from = to
	}
	return all
}

// some are n clocks of all lengths, the same each time.
func some(n int) []vclock.Clock {
	r := rand.New(rand.NewSource(13))
	l := make([]vclock.Clock, n)
	for i := range l {
		l[i] = make(vclock.Clock, i%(vclock.Most+1))
		for k := range l[i] {
			switch r.Intn(4) {
			case 0:
				l[i][k] = 0
			case 1:
				l[i][k] = r.Intn(3)
			case 2:
				l[i][k] = top - r.Intn(3)
			default:
				l[i][k] = r.Intn(top + 1)
			}
		}
	}
	return l
}

// many are clocks at the edges, short ones, and some of all lengths.
func many() []vclock.Clock {
	full, greatest, last := make(vclock.Clock, vclock.Most), make(vclock.Clock, vclock.Most), make(vclock.Clock, vclock.Most)
	for i := range vclock.Most {
		full[i], greatest[i] = i+1, top
	}
	last[vclock.Most-1] = 1
	l := []vclock.Clock{nil, full, greatest, last, make(vclock.Clock, vclock.Most), full[:15], last[:15]}
	return slices.Concat(l, rows(3, 0, 1, top), some(68))
}

func TestP131AtByModel(t *testing.T) {
	for _, c := range many() {
		n := of(c)
		for i := range vclock.Most {
			if got := c.At(i); got != n[i] {
				t.Errorf("%v at %d: %d", c, i, got)
			}
		}
		for _, i := range nowhere {
			if got := c.At(i); got != 0 {
				t.Errorf("%v at %d: %d", c, i, got)
			}
		}
	}
}

func TestP131TickByModel(t *testing.T) {
	for _, c := range many() {
		for i := range vclock.Most {
			has(t, c.Tick(i), of(c).ticked(i))
		}
		for _, i := range nowhere {
			if got := c.Tick(i); !slices.Equal(got, c) {
				t.Errorf("%v ticked at %d: %v", c, i, got)
			}
		}
	}
}

// TestP131TickInTurns: clocks made of each other, from the nil one on.
func TestP131TickInTurns(t *testing.T) {
	r := rand.New(rand.NewSource(131))
	var c vclock.Clock
	var n numbers
	for range 2000 {
		i := r.Intn(20) - 2
		c, n = c.Tick(i), n.ticked(i)
		has(t, c, n)
	}
}

func TestP131PairsByModel(t *testing.T) {
	l := many()
	for _, c := range l {
		for _, d := range l {
			n, m := of(c), of(d)
			has(t, c.Join(d), n.joined(m))
			if got := c.Leq(d); got != n.atMost(m) {
				t.Errorf("%v at most %v: %v", c, d, got)
			}
			if got := c.Same(d); got != (n == m) {
				t.Errorf("%v same as %v: %v", c, d, got)
			}
		}
	}
}

// TestP131OnePlace: clocks that differ at one place alone, wherever that is, so that
// no place is left out.
func TestP131OnePlace(t *testing.T) {
	full := make(vclock.Clock, vclock.Most)
	for i := range full {
		full[i] = 5
	}
	for i := range vclock.Most {
		more := slices.Clone(full)
		more[i] = 6
		if more.Leq(full) || !full.Leq(more) || more.Same(full) || full.Same(more) {
			t.Errorf("%v and %v: %v, %v, %v, %v", more, full, more.Leq(full), full.Leq(more), more.Same(full), full.Same(more))
		}
		has(t, full.Join(more), of(more))
		has(t, more.Join(full), of(more))
		has(t, full.Tick(i), of(more))
		alone := make(vclock.Clock, i+1)
		alone[i] = 1
		if alone.Leq(nil) || !vclock.Clock(nil).Leq(alone) || alone.Same(nil) {
			t.Errorf("%v and nil", alone)
		}
		has(t, vclock.Clock(nil).Tick(i), of(alone))
		has(t, vclock.Clock(nil).Join(alone), of(alone))
		has(t, alone.Join(nil), of(alone))
	}
}

// TestP132Least: of all small clocks, what is joined is at least both, and at most
// each one that both are at most; asked by Leq and by the model.
func TestP132Least(t *testing.T) {
	l := rows(3, 0, 1, top)
	for _, a := range l {
		for _, b := range l {
			j := a.Join(b)
			if !a.Leq(j) || !b.Leq(j) || !of(a).atMost(of(j)) || !of(b).atMost(of(j)) {
				t.Fatalf("%v joined to %v isn't at least both: %v", a, b, j)
			}
			for _, d := range l {
				if a.Leq(d) && b.Leq(d) && !j.Leq(d) {
					t.Fatalf("%v and %v are at most %v, %v isn't", a, b, d, j)
				}
				if of(a).atMost(of(d)) && of(b).atMost(of(d)) && !of(j).atMost(of(d)) {
					t.Fatalf("%v and %v are at most %v, but not %v, by the model", a, b, d, j)
				}
			}
		}
	}
}

// TestP132NoLess: of clocks of all lengths, what is joined with any one number 1 less
// isn't at least both any more, so that none that is less would do.
func TestP132NoLess(t *testing.T) {
	l := many()
	for _, a := range l {
		for _, b := range l {
			j := a.Join(b)
			if !a.Leq(j) || !b.Leq(j) {
				t.Fatalf("%v joined to %v isn't at least both: %v", a, b, j)
			}
			for i := range j {
				if j[i] == 0 {
					continue
				}
				less := slices.Clone(j)
				less[i]--
				if a.Leq(less) && b.Leq(less) {
					t.Fatalf("%v joined to %v: %v, but %v is at least both", a, b, j, less)
				}
			}
		}
	}
}

// TestP132EitherWay: it doesn't matter which of two is joined to which, nor how often.
func TestP132EitherWay(t *testing.T) {
	l := many()
	for _, a := range l {
		if j := a.Join(a); !j.Same(a) || of(j) != of(a) {
			t.Errorf("%v joined to itself: %v", a, j)
		}
		for _, b := range l {
			j, k := a.Join(b), b.Join(a)
			if !j.Same(k) || of(j) != of(k) {
				t.Errorf("%v joined to %v: %v, and the other way %v", a, b, j, k)
			}
			if again := j.Join(b).Join(a); !again.Same(j) || of(again) != of(j) {
				t.Errorf("%v joined to %v: %v, and once more %v", a, b, j, again)
			}
		}
	}
}

// TestP132ThreeInAnyOrder: nor does it matter of three which are joined first.
func TestP132ThreeInAnyOrder(t *testing.T) {
	l := rows(3, 0, 1, 2)
	for _, a := range l {
		for _, b := range l {
			for _, c := range l {
				if j, k := a.Join(b).Join(c), a.Join(b.Join(c)); !j.Same(k) || of(j) != of(k) {
					t.Fatalf("%v, %v, %v: %v and %v", a, b, c, j, k)
				}
			}
		}
	}
}
