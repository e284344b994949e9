package vclock_test

import (
	"math"
	"slices"
	"testing"

	"selvedge/vclock"
)

// nowhere are places that no thread has, at the edges of the type among them.
var nowhere = []int{
	-1, -2, -16, vclock.Most, vclock.Most + 1, 64, 1 << 32, 1<<32 + 1, -1 << 32,
	math.MaxInt32, math.MinInt32, math.MaxInt, math.MaxInt - 1, math.MinInt, math.MinInt + 1,
}

func TestP131Most(t *testing.T) {
	if vclock.Most != 16 {
		t.Error(vclock.Most)
	}
}

func TestP131Example(t *testing.T) {
	a, b := vclock.Clock{1, 0, 2}, vclock.Clock{0, 3}
	has(t, a.Join(b), numbers{1, 3, 2})
	has(t, b.Join(a), numbers{1, 3, 2})
	if !a.Join(b).Same(vclock.Clock{1, 3, 2}) {
		t.Error(a.Join(b))
	}
}

// all16 is a clock of 16 numbers, 1 to 16.
func all16() vclock.Clock {
	return vclock.Clock{1, 2, 3, 4, 5, 6, 7, 8, 9, 10, 11, 12, 13, 14, 15, 16}
}

func TestP131At(t *testing.T) {
	for _, c := range []struct {
		name string
		c    vclock.Clock
		i    int
		want int
	}{
		{"the first", vclock.Clock{7, 8, 9}, 0, 7},
		{"one in the midst", vclock.Clock{7, 8, 9}, 1, 8},
		{"the last one", vclock.Clock{7, 8, 9}, 2, 9},
		{"one behind it", vclock.Clock{7, 8, 9}, 3, 0},
		{"the last place of a short one", vclock.Clock{7, 8, 9}, 15, 0},
		{"one more than the last place", vclock.Clock{7, 8, 9}, 16, 0},
		{"below 0", vclock.Clock{7, 8, 9}, -1, 0},
		{"the greatest", vclock.Clock{7, 8, 9}, math.MaxInt, 0},
		{"the least", vclock.Clock{7, 8, 9}, math.MinInt, 0},
		{"a 0 that is there", vclock.Clock{7, 0, 9}, 1, 0},
		{"a 0 at the end", vclock.Clock{7, 0}, 1, 0},
		{"the greatest number", vclock.Clock{0, top}, 1, top},

		{"nil, the first", nil, 0, 0},
		{"nil, the last place", nil, 15, 0},
		{"nil, below 0", nil, -1, 0},
		{"nil, one more", nil, 16, 0},
		{"nil, the greatest", nil, math.MaxInt, 0},
		{"nil, the least", nil, math.MinInt, 0},
		{"without numbers, the first", vclock.Clock{}, 0, 0},
		{"without numbers, the last place", vclock.Clock{}, 15, 0},
		{"without numbers, below 0", vclock.Clock{}, -1, 0},

		{"of 16, the first", all16(), 0, 1},
		{"of 16, the last one", all16(), 15, 16},
		{"of 16, one more", all16(), 16, 0},
		{"of 16, below 0", all16(), -1, 0},
		{"of 16, the greatest", all16(), math.MaxInt, 0},
		{"of 16, the least", all16(), math.MinInt, 0},
		{"of a piece, behind its end", all16()[:4], 4, 0},
		{"of a piece, ahead of its beginning", all16()[4:8], -1, 0},
		{"of a piece, its first", all16()[4:8], 0, 5},
	} {
		t.Run(c.name, func(t *testing.T) {
			if got := c.c.At(c.i); got != c.want {
				t.Errorf("%v at %d: %d, not %d", c.c, c.i, got, c.want)
			}
		})
	}
}

func TestP131Tick(t *testing.T) {
	for _, c := range []struct {
		name string
		c    vclock.Clock
		i    int
		want numbers
	}{
		{"the first", vclock.Clock{7, 8, 9}, 0, numbers{8, 8, 9}},
		{"one in the midst", vclock.Clock{7, 8, 9}, 1, numbers{7, 9, 9}},
		{"the last one", vclock.Clock{7, 8, 9}, 2, numbers{7, 8, 10}},
		{"one behind it", vclock.Clock{7, 8, 9}, 3, numbers{7, 8, 9, 1}},
		{"some behind it", vclock.Clock{7, 8, 9}, 6, numbers{7, 8, 9, 0, 0, 0, 1}},
		{"the last place of a short one", vclock.Clock{7, 8, 9}, 15, numbers{0: 7, 1: 8, 2: 9, 15: 1}},
		{"a 0 that is there", vclock.Clock{7, 0, 9}, 1, numbers{7, 1, 9}},
		{"ahead of zeros at the end", vclock.Clock{7, 0, 0}, 0, numbers{8}},
		{"the greatest number", vclock.Clock{0, top}, 1, numbers{0, top + 1}},
		{"beside the greatest number", vclock.Clock{0, top}, 0, numbers{1, top}},

		{"nil, the first", nil, 0, numbers{1}},
		{"nil, the last place", nil, 15, numbers{15: 1}},
		{"without numbers, the first", vclock.Clock{}, 0, numbers{1}},
		{"without numbers, the last place", vclock.Clock{}, 15, numbers{15: 1}},

		{"of 16, the first", all16(), 0, of(all16()).ticked(0)},
		{"of 16, the last one", all16(), 15, numbers{1, 2, 3, 4, 5, 6, 7, 8, 9, 10, 11, 12, 13, 14, 15, 17}},
		{"of 15, the last place", all16()[:15], 15, numbers{1, 2, 3, 4, 5, 6, 7, 8, 9, 10, 11, 12, 13, 14, 15, 1}},
		{"of a piece, behind its end", all16()[:2], 2, numbers{1, 2, 1}},
		{"of a piece, some behind its end", all16()[:2], 4, numbers{1, 2, 0, 0, 1}},
	} {
		t.Run(c.name, func(t *testing.T) {
			before := slices.Clone(c.c)
			has(t, c.c.Tick(c.i), c.want)
			if !slices.Equal(c.c, before) {
				t.Errorf("%v became %v", before, c.c)
			}
		})
	}
}

// TestP131TickNowhere: the clock as it was, number by number, in memory of its own.
func TestP131TickNowhere(t *testing.T) {
	for _, c := range []vclock.Clock{
		nil, {}, {0}, {1}, {7, 8, 9}, {7, 0, 0}, {0, top}, all16(), make(vclock.Clock, vclock.Most),
		all16()[:4], all16()[12:], all16()[:0],
	} {
		for _, i := range nowhere {
			before := slices.Clone(c)
			got := c.Tick(i)
			if !slices.Equal(got, before) || !got.Same(c) {
				t.Errorf("%v ticked at %d: %v", before, i, got)
			}
			scribble(got)
			if !slices.Equal(c, before) {
				t.Errorf("%v ticked at %d shares its memory: it became %v", before, i, c)
			}
			again := c.Tick(i)
			scribble(got)
			if !slices.Equal(again, before) {
				t.Errorf("%v ticked twice at %d: both share memory", before, i)
			}
		}
	}
}

func TestP131Join(t *testing.T) {
	for _, c := range []struct {
		name string
		c, d vclock.Clock
		want numbers
	}{
		{"of one length", vclock.Clock{1, 5, 3}, vclock.Clock{4, 2, 3}, numbers{4, 5, 3}},
		{"a longer one with numbers at the end", vclock.Clock{1}, vclock.Clock{0, 0, 2}, numbers{1, 0, 2}},
		{"a longer one with zeros at the end", vclock.Clock{1}, vclock.Clock{2, 0, 0}, numbers{2}},
		{"a longer one with the same numbers", vclock.Clock{1, 2}, vclock.Clock{1, 2, 3}, numbers{1, 2, 3}},
		{"nil and nil", nil, nil, numbers{}},
		{"nil and one without numbers", nil, vclock.Clock{}, numbers{}},
		{"nil and zeros", nil, vclock.Clock{0, 0}, numbers{}},
		{"nil and numbers", nil, vclock.Clock{3, 0, 1}, numbers{3, 0, 1}},
		{"without numbers, and numbers", vclock.Clock{}, vclock.Clock{3, 0, 1}, numbers{3, 0, 1}},
		{"nil and 16 numbers", nil, all16(), of(all16())},
		{"a short one and 16 numbers", vclock.Clock{5, 1}, all16(), of(all16()).joined(numbers{5})},
		{"16 and 16 numbers", slices.Repeat(vclock.Clock{9}, 16), all16(), numbers{9, 9, 9, 9, 9, 9, 9, 9, 9, 10, 11, 12, 13, 14, 15, 16}},
		{"16 and 15 numbers", slices.Repeat(vclock.Clock{9}, 15), all16(), numbers{9, 9, 9, 9, 9, 9, 9, 9, 9, 10, 11, 12, 13, 14, 15, 16}},
		{"the greatest number and 0", vclock.Clock{top, 0}, vclock.Clock{0, top}, numbers{top, top}},
		{"the greatest number and 1 less", vclock.Clock{top, top - 1}, vclock.Clock{top - 1, top}, numbers{top, top}},
		{"numbers alike but for those above 2^32", vclock.Clock{1 << 33, 7}, vclock.Clock{6, 1<<33 + 6}, numbers{1 << 33, 1<<33 + 6}},
		{"a piece, with other numbers behind its end", all16()[:2], vclock.Clock{0, 0, 1}, numbers{1, 2, 1}},
	} {
		t.Run(c.name, func(t *testing.T) {
			has(t, c.c.Join(c.d), c.want)
			has(t, c.d.Join(c.c), c.want)
		})
	}
}

func TestP131LeqAndSame(t *testing.T) {
	for _, c := range []struct {
		name     string
		c, d     vclock.Clock
		leq, geq bool
	}{
		{"alike", vclock.Clock{1, 2, 3}, vclock.Clock{1, 2, 3}, true, true},
		{"one number less", vclock.Clock{1, 1, 3}, vclock.Clock{1, 2, 3}, true, false},
		{"the first less", vclock.Clock{0, 2, 3}, vclock.Clock{1, 2, 3}, true, false},
		{"the last less", vclock.Clock{1, 2, 2}, vclock.Clock{1, 2, 3}, true, false},
		{"each number less", vclock.Clock{0, 1, 2}, vclock.Clock{1, 2, 3}, true, false},
		{"neither", vclock.Clock{1, 2}, vclock.Clock{2, 1}, false, false},
		{"neither, by the first and the last", vclock.Clock{1, 5, 2}, vclock.Clock{2, 5, 1}, false, false},

		{"longer, with zeros at the end", vclock.Clock{1, 2}, vclock.Clock{1, 2, 0, 0}, true, true},
		{"longer, with a number at the end", vclock.Clock{1, 2}, vclock.Clock{1, 2, 0, 1}, true, false},
		{"longer, with the greatest number at the end", vclock.Clock{1, 2}, vclock.Clock{1, 2, top}, true, false},
		{"longer, less ahead, zeros at the end", vclock.Clock{1, 2}, vclock.Clock{1, 1, 0}, false, true},
		{"longer, less ahead, a number at the end", vclock.Clock{1, 2}, vclock.Clock{1, 1, 1}, false, false},

		{"nil and nil", nil, nil, true, true},
		{"nil and one without numbers", nil, vclock.Clock{}, true, true},
		{"nil and zeros", nil, vclock.Clock{0, 0, 0}, true, true},
		{"nil and 16 zeros", nil, make(vclock.Clock, 16), true, true},
		{"nil and a number", nil, vclock.Clock{0, 1}, true, false},
		{"nil and the last place", nil, vclock.Clock{15: 1}, true, false},
		{"without numbers, and zeros", vclock.Clock{}, vclock.Clock{0}, true, true},
		{"without numbers, and a number", vclock.Clock{}, vclock.Clock{1}, true, false},

		{"16 numbers, alike", all16(), all16(), true, true},
		{"16 numbers and 15", all16()[:15], all16(), true, false},
		{"16 numbers, the last less", all16(), all16().Tick(15), true, false},
		{"16 numbers, the first less", all16(), all16().Tick(0), true, false},
		{"16 zeros and 3", make(vclock.Clock, 3), make(vclock.Clock, 16), true, true},

		{"0 and the greatest number", vclock.Clock{0}, vclock.Clock{top}, true, false},
		{"the greatest number, alike", vclock.Clock{top}, vclock.Clock{top}, true, true},
		{"the greatest number and 1 less", vclock.Clock{top - 1}, vclock.Clock{top}, true, false},
		{"numbers alike in their lower bits", vclock.Clock{0}, vclock.Clock{1 << 32}, true, false},
		{"a piece, with other numbers behind its end", all16()[:2], vclock.Clock{1, 2}, true, true},
	} {
		t.Run(c.name, func(t *testing.T) {
			if leq, geq := c.c.Leq(c.d), c.d.Leq(c.c); leq != c.leq || geq != c.geq {
				t.Errorf("%v and %v: Leq %v, and the other way %v", c.c, c.d, leq, geq)
			}
			same := c.leq && c.geq
			if got, back := c.c.Same(c.d), c.d.Same(c.c); got != same || back != same {
				t.Errorf("%v and %v: Same %v, and the other way %v", c.c, c.d, got, back)
			}
		})
	}
}

// TestR1NoClocks: calls end, and don't panic, whatever the numbers are, and however
// many; nothing else is promised of such clocks.
func TestR1NoClocks(t *testing.T) {
	l := []vclock.Clock{
		nil, {1, 2}, all16(), make(vclock.Clock, 17), make(vclock.Clock, 1000), append(all16(), 17, 18),
		{-1}, {0, -1, 5}, {math.MaxInt, math.MinInt}, {math.MinInt, math.MaxInt}, {top + 1}, {15: math.MaxInt},
		slices.Repeat(vclock.Clock{math.MaxInt}, 40), slices.Repeat(vclock.Clock{math.MinInt}, 40),
	}
	places := slices.Concat(nowhere, []int{0, 1, 15, 17, 39, 40, 999, 1000})
	for _, c := range l {
		for _, i := range places {
			c.At(i)
			c.Tick(i)
		}
		for _, d := range l {
			c.Join(d)
			c.Leq(d)
			c.Same(d)
		}
	}
}
