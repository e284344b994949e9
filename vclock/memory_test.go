package vclock_test

import (
	"math"
	"slices"
	"testing"

	"selvedge/vclock"
)

// How much room there is ahead of a clock and behind its end in the tests' arrays.
const aside = 20

// scribble writes into a clock, and into all room behind its end.
func scribble(c vclock.Clock) {
	all := c[:cap(c)]
	for i := range all {
		all[i] = -77
	}
}

// within is a clock that is a piece of a longer array, with other numbers ahead of it
// and behind its end, and that array.
func within(c vclock.Clock) (piece, whole vclock.Clock) {
	whole = slices.Repeat(vclock.Clock{99}, aside+len(c)+aside)
	piece = whole[aside : aside+len(c)]
	copy(piece, c)
	return piece, whole
}

// everywhere are the places that a thread may have, and some that it may not.
var everywhere = []int{0, 1, 2, 3, 7, 14, 15, 16, 17, -1, math.MaxInt, math.MinInt}

// untouched asks that arrays are as they were.
func untouched(t *testing.T, when string, whole, before vclock.Clock) {
	t.Helper()
	if !slices.Equal(whole, before) {
		t.Errorf("%s: %v became %v", when, before, whole)
	}
}

func TestP132TickTouchesNothing(t *testing.T) {
	for _, c := range many() {
		for _, i := range everywhere {
			piece, whole := within(c)
			before := slices.Clone(whole)
			got := piece.Tick(i)
			untouched(t, "by Tick", whole, before)
			has(t, got, of(c).ticked(i))
			scribble(got)
			untouched(t, "by writing into what Tick answered", whole, before)
		}
	}
}

// TestP132TickKeepsNothing: nor does what was answered change with what was handed in.
func TestP132TickKeepsNothing(t *testing.T) {
	for _, c := range many() {
		for _, i := range everywhere {
			piece, whole := within(c)
			got := piece.Tick(i)
			scribble(whole)
			has(t, got, of(c).ticked(i))
		}
	}
}

func TestP132JoinTouchesNothing(t *testing.T) {
	l := many()
	for _, c := range l {
		for _, d := range l {
			one, whole1 := within(c)
			two, whole2 := within(d)
			before1, before2 := slices.Clone(whole1), slices.Clone(whole2)
			got := one.Join(two)
			untouched(t, "by Join", whole1, before1)
			untouched(t, "by Join, what it was joined to", whole2, before2)
			has(t, got, of(c).joined(of(d)))
			scribble(got)
			untouched(t, "by writing into what Join answered", whole1, before1)
			untouched(t, "by writing into what Join answered, what it was joined to", whole2, before2)
		}
	}
}

func TestP132JoinKeepsNothing(t *testing.T) {
	l := many()
	for _, c := range l {
		for _, d := range l {
			one, whole1 := within(c)
			two, whole2 := within(d)
			got := one.Join(two)
			scribble(whole1)
			scribble(whole2)
			has(t, got, of(c).joined(of(d)))
		}
	}
}

// TestP132JoinOfOneArray: clocks that share their memory, a clock and itself among them.
func TestP132JoinOfOneArray(t *testing.T) {
	for from1 := range 4 {
		for to1 := from1; to1 <= 8; to1++ {
			for from2 := range 4 {
				for to2 := from2; to2 <= 8; to2++ {
					whole := vclock.Clock{3, 1, 4, 1, 5, 9, 2, 6, 5, 3}
					before := slices.Clone(whole)
					c, d := whole[from1:to1], whole[from2:to2]
					got := c.Join(d)
					untouched(t, "by Join", whole, before)
					has(t, got, of(c).joined(of(d)))
					scribble(got)
					untouched(t, "by writing into what Join answered", whole, before)
				}
			}
		}
	}
}

// TestP132LookingTouchesNothing: the calls that only look.
func TestP132LookingTouchesNothing(t *testing.T) {
	l := many()
	for _, c := range l {
		one, whole1 := within(c)
		before1 := slices.Clone(whole1)
		for _, i := range everywhere {
			one.At(i)
		}
		for _, d := range l {
			two, whole2 := within(d)
			before2 := slices.Clone(whole2)
			one.Leq(two)
			one.Same(two)
			untouched(t, "by Leq and Same", whole2, before2)
		}
		untouched(t, "by At, Leq and Same", whole1, before1)
	}
}

// TestP132AnswersShareNothing: clocks that calls answered, with whatever room they
// have behind their ends, handed in to further ones.
func TestP132AnswersShareNothing(t *testing.T) {
	for _, c := range many() {
		first := c.Tick(2)
		want := of(c).ticked(2)
		for _, i := range everywhere {
			second, third := first.Tick(i), first.Tick(i)
			scribble(second)
			has(t, first, want)
			has(t, third, want.ticked(i))
		}
		for _, d := range many() {
			second, third := first.Join(d), d.Join(first)
			again := first.Join(d)
			scribble(second)
			has(t, first, want)
			has(t, third, want.joined(of(d)))
			scribble(third)
			has(t, again, want.joined(of(d)))
			fourth := again.Tick(15)
			scribble(again)
			has(t, fourth, want.joined(of(d)).ticked(15))
		}
	}
}
