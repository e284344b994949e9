package event_test

import (
	"errors"
	"math"
	"math/big"
	"reflect"
	"slices"
	"strings"
	"testing"

	"selvedge/api"
	"selvedge/event"
	"selvedge/id"
	"selvedge/op"
	"selvedge/version"
)

func mk(counter int64, site int) id.ID { return id.ID{Counter: counter, Site: site} }

// in is a change by which a character came, out is one by which it died.
func in(seq int64, at int, char rune) version.Change {
	return version.Change{Seq: seq, At: at, ID: mk(1, 1), Char: char}
}

func out(seq int64, at int, char rune) version.Change {
	return version.Change{Seq: seq, At: at, ID: mk(1, 1), Char: char, Del: true}
}

func lag(from, to int64) event.Lag { return event.Lag{From: from, To: to} }

// likeLag and likeChange are made as a Lag and a change are, and are none.
type (
	likeLag    event.Lag
	likeChange version.Change
	withLag    struct{ event.Lag }
	withChange struct{ version.Change }
)

// wrongLags are Lags that are no events.
func wrongLags() []event.Lag {
	return []event.Lag{
		lag(0, 0), lag(0, 1), lag(0, 5), lag(-1, 1), lag(-1, -1), lag(-5, -1),
		lag(2, 1), lag(9, 3), lag(1, 0), lag(1, -1), lag(0, -1), lag(-1, -2),
		lag(math.MinInt64, math.MaxInt64), lag(math.MinInt64, math.MinInt64),
		lag(math.MaxInt64, math.MinInt64), lag(math.MaxInt64, math.MaxInt64-1),
		lag(math.MaxInt64, 1), lag(1, math.MinInt64), lag(0, math.MaxInt64),
	}
}

// otherThings are neither changes nor Lags.
func otherThings() []any {
	c, l := in(1, 0, 'a'), lag(1, 2)
	return []any{
		nil, 0, 1, 3, -1, int64(1), 'a', 1.5, 2i, true, "", "a", "insert", "lag", "1..2",
		&c, &l, (*version.Change)(nil), (*event.Lag)(nil),
		[]version.Change{c}, [1]version.Change{c}, []event.Lag{l}, []any{c}, []any(nil),
		likeChange(c), likeLag(l), withChange{c}, withLag{l},
		struct{ From, To int64 }{1, 2},
		op.Op{}, mk(1, 1), version.Version{}, api.OK, errors.New("a"),
		map[string]int{}, map[string]int(nil), []int{1}, func() {}, (func())(nil), make(chan int), struct{}{},
	}
}

// wrongThings are all that are no events.
func wrongThings() []any {
	l := otherThings()
	for _, x := range wrongLags() {
		l = append(l, x)
	}
	return l
}

func TestP91Kind(t *testing.T) {
	for _, c := range []struct {
		e    any
		want string
	}{
		{in(1, 0, 'a'), "insert"},
		{out(1, 0, 'a'), "delete"},
		{in(5, 7, '\U0010ffff'), "insert"},
		{out(5, 7, '\U0010ffff'), "delete"},
		// whatever its numbers are, it is a change
		{version.Change{}, "insert"},
		{version.Change{Del: true}, "delete"},
		{in(0, -1, -1), "insert"},
		{in(-5, 0, 'a'), "insert"},
		{out(math.MinInt64, math.MinInt, 0), "delete"},
		{out(math.MaxInt64, math.MaxInt, math.MaxInt32), "delete"},
		{version.Change{ID: mk(-1, 2000), Char: 0xd800}, "insert"},

		{lag(1, 1), "lag"},
		{lag(1, 2), "lag"},
		{lag(7, 7), "lag"},
		{lag(7, 9), "lag"},
		{lag(1, math.MaxInt64), "lag"},
		{lag(math.MaxInt64, math.MaxInt64), "lag"},
	} {
		if got := event.Kind(c.e); got != c.want {
			t.Errorf("Kind(%#v): %q, not %q", c.e, got, c.want)
		}
	}
	for _, e := range wrongThings() {
		if got := event.Kind(e); got != "none" {
			t.Errorf("Kind(%#v): %q", e, got)
		}
	}
}

func TestP91Text(t *testing.T) {
	for _, c := range []struct {
		e    any
		want string
	}{
		{version.Change{Seq: 5, At: 1, ID: mk(2, 1), Char: 'x'}, "5 +1 2.1"},
		{version.Change{Seq: 5, At: 1, ID: mk(2, 1), Char: 'x', Del: true}, "5 -1 2.1"},
		{version.Change{Seq: 1, ID: mk(1048576, 1000), Char: ' '}, "1 +0 1048576.1000"},
		{version.Change{Seq: 100, At: 4095, ID: mk(10, 20), Del: true}, "100 -4095 10.20"},
		{version.Change{}, "0 +0 -"},
		{version.Change{Del: true}, "0 -0 -"},
		{version.Change{Seq: -7, At: -3}, "-7 +-3 -"},
		{version.Change{Seq: -7, At: -3, Del: true}, "-7 --3 -"},
		{version.Change{Seq: 2, ID: mk(1, 0)}, "2 +0 ?"},
		{version.Change{Seq: 2, ID: mk(1048577, 1)}, "2 +0 ?"},
		{version.Change{Seq: math.MaxInt64, At: math.MaxInt, ID: mk(1, 1)}, "9223372036854775807 +9223372036854775807 1.1"},
		{version.Change{Seq: math.MinInt64, At: math.MinInt, ID: mk(1, 1), Del: true}, "-9223372036854775808 --9223372036854775808 1.1"},

		{lag(1, 1), "1..1"},
		{lag(2, 4), "2..4"},
		{lag(7, 1000000), "7..1000000"},
		{lag(1, math.MaxInt64), "1..9223372036854775807"},
		// a Lag is written so, be it an event or not
		{lag(0, 0), "0..0"},
		{lag(2, 1), "2..1"},
		{lag(-3, -4), "-3..-4"},
		{lag(math.MinInt64, math.MaxInt64), "-9223372036854775808..9223372036854775807"},
	} {
		if got := event.Text(c.e); got != c.want {
			t.Errorf("Text(%#v): %q, not %q", c.e, got, c.want)
		}
	}
	for _, e := range otherThings() {
		if got := event.Text(e); got != "none" {
			t.Errorf("Text(%#v): %q", e, got)
		}
	}
}

// The text of a change has nothing of its Char.
func TestP91TextWithoutChar(t *testing.T) {
	for _, char := range []rune{0, -1, 'a', ' ', 0xd800, 0x10ffff} {
		if got := event.Text(in(3, 2, char)); got != "3 +2 1.1" {
			t.Errorf("of the Char %d: %q", char, got)
		}
	}
}

func TestP91Changes(t *testing.T) {
	a, b, c := in(9, 3, 'a'), out(-2, -1, 'b'), version.Change{}
	for _, x := range []struct {
		name string
		l    []any
		want []version.Change
	}{
		{"nothing at all", nil, nil},
		{"no things", []any{}, nil},
		{"one", []any{a}, []version.Change{a}},
		{"in order, whatever their Seqs are", []any{a, b, c}, []version.Change{a, b, c}},
		{"in another order", []any{c, b, a}, []version.Change{c, b, a}},
		{"the same one again", []any{a, a, b, a}, []version.Change{a, a, b, a}},
		{"none", []any{lag(1, 2), 3, nil}, nil},
		{"among other things", []any{nil, a, lag(1, 2), &a, lag(2, 1), b, 1, "a", &b, c, (*version.Change)(nil)}, []version.Change{a, b, c}},
	} {
		if got := event.Changes(x.l); !slices.Equal(got, x.want) {
			t.Errorf("%s: %+v, not %+v", x.name, got, x.want)
		}
	}
	if got := event.Changes(wrongThings()); len(got) != 0 {
		t.Errorf("of no events: %+v", got)
	}
}

// Whoever writes into an answer changes no other answer, and nothing that was given.
func TestP91ChangesAreNewMemory(t *testing.T) {
	l := []any{in(1, 0, 'a'), lag(2, 3), out(4, 0, 'a')}
	first, second := event.Changes(l), event.Changes(l)
	first[0], first[1] = version.Change{Seq: -1}, version.Change{Seq: -2}
	_ = append(first, version.Change{Seq: -3})
	want := []version.Change{in(1, 0, 'a'), out(4, 0, 'a')}
	if !slices.Equal(second, want) || !slices.Equal(event.Changes(l), want) {
		t.Errorf("%+v, %+v", second, event.Changes(l))
	}
}

func TestP92Follow(t *testing.T) {
	const greatest, least = math.MaxInt64, math.MinInt64
	for _, c := range []struct {
		name string
		seq  int64
		l    []any
		want int64
		e    api.Errno
	}{
		{"the example", 0, []any{in(1, 0, 'a'), lag(2, 4)}, 4, api.OK},
		{"nothing at all", 7, nil, 7, api.OK},
		{"no events", 7, []any{}, 7, api.OK},
		{"no events behind 0", 0, nil, 0, api.OK},
		{"no events below 0", -7, nil, -7, api.OK},
		{"no events behind the greatest", greatest, nil, greatest, api.OK},
		{"no events behind the least", least, nil, least, api.OK},

		{"a change", 0, []any{in(1, 0, 'a')}, 1, api.OK},
		{"a change that takes out", 41, []any{out(42, 0, 'a')}, 42, api.OK},
		{"changes", 4, []any{in(5, 0, 'a'), out(6, 0, 'a'), in(7, 0, 'b')}, 7, api.OK},
		{"a Lag first", 0, []any{lag(1, 3)}, 3, api.OK},
		{"a Lag of one", 6, []any{lag(7, 7)}, 7, api.OK},
		{"a change behind a Lag", 0, []any{lag(1, 3), in(4, 0, 'a')}, 4, api.OK},
		{"a Lag behind a Lag", 0, []any{lag(1, 3), lag(4, 4), lag(5, 9)}, 9, api.OK},
		{"a Lag between", 4, []any{in(5, 0, 'a'), lag(6, 8), out(9, 0, 'a')}, 9, api.OK},
		{"places and Chars that may not be", 0, []any{in(1, -1, -1), out(2, 5000, 0)}, 2, api.OK},

		{"a Seq of 0", -1, []any{in(0, 0, 'a')}, 0, api.OK},
		{"Seqs below 0", -8, []any{in(-7, 0, 'a'), out(-6, 0, 'a')}, -6, api.OK},
		{"from below 0 up to a Lag", -2, []any{in(-1, 0, 'a'), in(0, 0, 'a'), lag(1, 2)}, 2, api.OK},
		{"from the least on", least, []any{in(least+1, 0, 'a'), in(least+2, 0, 'a')}, least + 2, api.OK},
		{"up to the greatest", greatest - 2, []any{in(greatest-1, 0, 'a'), in(greatest, 0, 'a')}, greatest, api.OK},
		{"up to the greatest, of a Lag", 0, []any{lag(1, greatest)}, greatest, api.OK},
		{"a Lag of the greatest alone", greatest - 1, []any{lag(greatest, greatest)}, greatest, api.OK},

		{"the same Seq", 1, []any{in(1, 0, 'a')}, 0, api.ErrOrder},
		{"one too many", 0, []any{in(2, 0, 'a')}, 0, api.ErrOrder},
		{"one less", 1, []any{in(0, 0, 'a')}, 0, api.ErrOrder},
		{"of the other sign", 4, []any{in(-5, 0, 'a')}, 0, api.ErrOrder},
		{"a change twice", 0, []any{in(1, 0, 'a'), in(1, 0, 'a')}, 0, api.ErrOrder},
		{"a gap", 0, []any{in(1, 0, 'a'), in(3, 0, 'a')}, 0, api.ErrOrder},
		{"changes in the wrong order", 0, []any{in(2, 0, 'a'), in(1, 0, 'a')}, 0, api.ErrOrder},
		{"a Lag whose From is the Seq", 1, []any{lag(1, 3)}, 0, api.ErrOrder},
		{"a Lag whose From is one too many", 0, []any{lag(2, 3)}, 0, api.ErrOrder},
		{"a Lag whose To follows", 3, []any{lag(1, 4)}, 0, api.ErrOrder},
		{"a Lag below 0", -2, []any{lag(1, 4)}, 0, api.ErrOrder},
		{"a Lag that has the change ahead", 0, []any{in(1, 0, 'a'), lag(1, 3)}, 0, api.ErrOrder},
		{"a change behind a Lag's From", 0, []any{lag(1, 3), in(2, 0, 'a')}, 0, api.ErrOrder},
		{"a change that a Lag's To has", 0, []any{lag(1, 3), in(3, 0, 'a')}, 0, api.ErrOrder},
		{"a change one too many behind a Lag", 0, []any{lag(1, 3), in(5, 0, 'a')}, 0, api.ErrOrder},
		{"a Lag behind a Lag's From", 0, []any{lag(1, 3), lag(2, 5)}, 0, api.ErrOrder},

		{"behind the greatest, the least", greatest, []any{in(least, 0, 'a')}, 0, api.ErrOrder},
		{"behind the greatest, 0", greatest, []any{in(0, 0, 'a')}, 0, api.ErrOrder},
		{"behind the greatest, itself", greatest, []any{in(greatest, 0, 'a')}, 0, api.ErrOrder},
		{"behind the greatest, a Lag of itself", greatest, []any{lag(greatest, greatest)}, 0, api.ErrOrder},
		{"behind the greatest, a Lag from 1 on", greatest, []any{lag(1, 1)}, 0, api.ErrOrder},
		{"behind a Lag up to the greatest, the least", 0, []any{lag(1, greatest), in(least, 0, 'a')}, 0, api.ErrOrder},
		{"behind a change of the greatest, the least", greatest - 1, []any{in(greatest, 0, 'a'), in(least, 0, 'a')}, 0, api.ErrOrder},
		{"behind the least, itself", least, []any{in(least, 0, 'a')}, 0, api.ErrOrder},
		{"behind the least, the greatest", least, []any{in(greatest, 0, 'a')}, 0, api.ErrOrder},

		{"no event", 0, []any{3}, 0, api.ErrForm},
		{"a pointer to a change that follows", 0, []any{&version.Change{Seq: 1}}, 0, api.ErrForm},
		{"a pointer to a Lag that follows", 0, []any{&event.Lag{From: 1, To: 2}}, 0, api.ErrForm},
		{"behind a change", 0, []any{in(1, 0, 'a'), nil}, 0, api.ErrForm},
		{"behind the greatest, no event", greatest, []any{nil}, 0, api.ErrForm},
		{"a Lag that follows, and is no event", 1, []any{lag(2, 1)}, 0, api.ErrForm},
		{"a Lag from 0 on that follows, and is no event", -1, []any{lag(0, 3)}, 0, api.ErrForm},
		{"a Lag that neither is an event nor follows", 5, []any{lag(3, 2)}, 0, api.ErrForm},
		{"a Lag from below 1 on that doesn't follow", 5, []any{lag(0, 2)}, 0, api.ErrForm},

		{"of several the first: no event", 0, []any{3, in(5, 0, 'a')}, 0, api.ErrForm},
		{"of several the first: it doesn't follow", 0, []any{in(5, 0, 'a'), 3}, 0, api.ErrOrder},
		{"of several the first: a Lag that doesn't follow", 0, []any{lag(2, 3), lag(2, 1)}, 0, api.ErrOrder},
		{"of several the first: a Lag that is no event", 0, []any{lag(2, 1), lag(2, 3)}, 0, api.ErrForm},
		{"of several behind one: it doesn't follow", 0, []any{in(1, 0, 'a'), in(1, 0, 'a'), nil}, 0, api.ErrOrder},
		{"of several behind one: no event", 0, []any{in(1, 0, 'a'), nil, in(1, 0, 'a')}, 0, api.ErrForm},
	} {
		if got, e := event.Follow(c.seq, c.l); got != c.want || e != c.e {
			t.Errorf("%s: Follow(%d, %+v): %d, %v, not %d, %v", c.name, c.seq, c.l, got, e, c.want, c.e)
		}
	}
}

// Wherever no event stands, it is told; behind what doesn't follow it isn't.
func TestP92FollowNoEvents(t *testing.T) {
	for _, x := range wrongThings() {
		for _, l := range [][]any{{x}, {x, in(1, 0, 'a')}, {in(1, 0, 'a'), x}, {lag(1, 3), x}, {in(1, 0, 'a'), lag(2, 3), x, in(4, 0, 'b')}} {
			if n, e := event.Follow(0, l); n != 0 || e != api.ErrForm {
				t.Errorf("Follow(0, %+v): %d, %v", l, n, e)
			}
		}
		l := []any{in(2, 0, 'a'), x}
		if n, e := event.Follow(0, l); n != 0 || e != api.ErrOrder {
			t.Errorf("Follow(0, %+v): %d, %v", l, n, e)
		}
	}
}

func TestP92Replay(t *testing.T) {
	for _, c := range []struct {
		name, text string
		l          []any
		want       string
		e          api.Errno
	}{
		{"nothing at all", "", nil, "", api.OK},
		{"no events", "ab", []any{}, "ab", api.OK},
		{"no events, of more than one byte", "aé日\U0001f600\ufffd", nil, "aé日\U0001f600\ufffd", api.OK},
		{"what no operation has stays", "\x00\n\t", nil, "\x00\n\t", api.OK},

		{"into an empty text", "", []any{in(1, 0, 'a')}, "a", api.OK},
		{"ahead of all", "ab", []any{in(1, 0, 'x')}, "xab", api.OK},
		{"in the midst", "ab", []any{in(1, 1, 'x')}, "axb", api.OK},
		{"at the length", "ab", []any{in(1, 2, 'x')}, "abx", api.OK},
		{"behind characters of more than one byte", "é日", []any{in(1, 1, '\U0001f600')}, "é\U0001f600日", api.OK},
		{"at the length, of characters of more than one byte", "é日", []any{in(1, 2, 'x')}, "é日x", api.OK},
		{"the ends of the Chars", "", []any{in(1, 0, ' '), in(2, 1, 0xd7ff), in(3, 2, 0xe000), in(4, 3, 0x10ffff)}, " \ud7ff\ue000\U0010ffff", api.OK},

		{"the only one out", "a", []any{out(1, 0, 'a')}, "", api.OK},
		{"the first out", "abc", []any{out(1, 0, 'a')}, "bc", api.OK},
		{"out of the midst", "abc", []any{out(1, 1, 'b')}, "ac", api.OK},
		{"the last out", "abc", []any{out(1, 2, 'c')}, "ab", api.OK},
		{"out, of more than one byte", "aé日b", []any{out(1, 2, '日')}, "aéb", api.OK},
		{"out, U+FFFD", "a\ufffdb", []any{out(1, 1, 0xfffd)}, "ab", api.OK},
		{"the one of two alike that stands there", "aba", []any{out(1, 2, 'a')}, "ab", api.OK},

		{"one behind the other", "", []any{in(1, 0, 'a'), in(2, 1, 'b'), out(3, 0, 'a')}, "b", api.OK},
		{"in and out", "hi", []any{in(5, 1, 'x'), out(6, 0, 'h')}, "xi", api.OK},
		{"out and in at the same place", "abc", []any{out(1, 1, 'b'), in(2, 1, 'x')}, "axc", api.OK},
		{"the length of the text by then", "", []any{in(1, 0, 'a'), in(2, 1, 'b'), in(3, 2, 'c'), out(4, 2, 'c')}, "ab", api.OK},
		{"whatever the Seqs and IDs are", "", []any{in(9, 0, 'a'), in(-3, 1, 'b'), version.Change{At: 2, ID: mk(-1, 0), Char: 'c'}}, "abc", api.OK},

		{"below 0", "ab", []any{in(1, -1, 'x')}, "", api.ErrRange},
		{"one above the length", "ab", []any{in(1, 3, 'x')}, "", api.ErrRange},
		{"one above an empty text's", "", []any{in(1, 1, 'x')}, "", api.ErrRange},
		{"as many as the bytes are", "é日", []any{in(1, 5, 'x')}, "", api.ErrRange},
		{"above the characters, below the bytes", "é日", []any{in(1, 3, 'x')}, "", api.ErrRange},
		{"the least", "ab", []any{in(1, math.MinInt, 'x')}, "", api.ErrRange},
		{"the greatest", "ab", []any{in(1, math.MaxInt, 'x')}, "", api.ErrRange},
		{"out, below 0", "ab", []any{out(1, -1, 'a')}, "", api.ErrRange},
		{"out, at the length", "ab", []any{out(1, 2, 'b')}, "", api.ErrRange},
		{"out, one above the length", "ab", []any{out(1, 3, 'b')}, "", api.ErrRange},
		{"out of an empty text", "", []any{out(1, 0, 'a')}, "", api.ErrRange},
		{"out, above the characters, below the bytes", "é日", []any{out(1, 2, '日')}, "", api.ErrRange},
		{"out, the least", "ab", []any{out(1, math.MinInt, 'a')}, "", api.ErrRange},
		{"out, the greatest", "ab", []any{out(1, math.MaxInt, 'a')}, "", api.ErrRange},
		{"above the length by then", "ab", []any{out(1, 0, 'a'), in(2, 2, 'x')}, "", api.ErrRange},

		{"out, of another Char", "ab", []any{out(1, 0, 'b')}, "", api.ErrClash},
		{"out, of another Char at the end", "ab", []any{out(1, 1, 'a')}, "", api.ErrClash},
		{"out, of a Char that is alike in its low byte", "日", []any{out(1, 0, 0xe5)}, "", api.ErrClash},
		{"out, of a Char that is alike in its low bytes", "\U0001f600", []any{out(1, 0, 0xf600)}, "", api.ErrClash},
		{"out, of the first byte's Char", "é", []any{out(1, 0, 0xc3)}, "", api.ErrClash},
		{"out, of a letter that is another one's capital", "ab", []any{out(1, 0, 'A')}, "", api.ErrClash},
		{"out twice", "ab", []any{out(1, 0, 'a'), out(2, 0, 'a')}, "", api.ErrClash},

		{"a Lag", "ab", []any{lag(1, 1)}, "", api.ErrState},
		{"a Lag behind a change", "ab", []any{in(1, 0, 'a'), lag(2, 3)}, "", api.ErrState},
		{"no event", "ab", []any{3}, "", api.ErrForm},
		{"nil", "ab", []any{nil}, "", api.ErrForm},
		{"a pointer to a change", "ab", []any{&version.Change{Char: 'x'}}, "", api.ErrForm},
		{"a Lag that is no event", "ab", []any{lag(2, 1)}, "", api.ErrForm},
		{"a Lag from 0 on", "ab", []any{lag(0, 1)}, "", api.ErrForm},

		{"of several the first: no event", "ab", []any{3, lag(1, 1), in(1, 9, 'x'), out(1, 0, 'x')}, "", api.ErrForm},
		{"of several the first: a Lag", "ab", []any{lag(1, 1), 3, in(1, 9, 'x'), out(1, 0, 'x')}, "", api.ErrState},
		{"of several the first: the place", "ab", []any{in(1, 9, 'x'), 3, lag(1, 1), out(1, 0, 'x')}, "", api.ErrRange},
		{"of several the first: the Char", "ab", []any{out(1, 0, 'x'), 3, lag(1, 1), in(1, 9, 'x')}, "", api.ErrClash},
		{"of several behind one: a Lag", "ab", []any{in(1, 0, 'x'), lag(2, 2), lag(2, 1)}, "", api.ErrState},
		{"of several behind one: no event", "ab", []any{in(1, 0, 'x'), lag(2, 1), lag(2, 2)}, "", api.ErrForm},
		{"of several behind one: the place", "ab", []any{out(1, 1, 'b'), out(2, 1, 'b'), nil}, "", api.ErrRange},
		{"of several behind one: the Char", "ab", []any{out(1, 0, 'a'), out(2, 0, 'a'), nil}, "", api.ErrClash},
	} {
		if got, e := event.Replay(c.text, c.l); got != c.want || e != c.e {
			t.Errorf("%s: Replay(%q, %+v): %q, %v, not %q, %v", c.name, c.text, c.l, got, e, c.want, c.e)
		}
	}
}

// Wherever no event stands, it is told; behind another error it isn't.
func TestP92ReplayNoEvents(t *testing.T) {
	for _, x := range wrongThings() {
		for _, l := range [][]any{{x}, {x, in(1, 0, 'a')}, {in(1, 0, 'a'), x}, {x, lag(1, 1)}, {x, in(1, 9, 'a')}, {x, out(1, 0, 'x')}} {
			if s, e := event.Replay("hi", l); s != "" || e != api.ErrForm {
				t.Errorf("Replay of %+v: %q, %v", l, s, e)
			}
		}
		for _, c := range []struct {
			ahead any
			want  api.Errno
		}{{lag(1, 1), api.ErrState}, {in(1, 9, 'a'), api.ErrRange}, {out(1, 0, 'x'), api.ErrClash}} {
			if s, e := event.Replay("hi", []any{c.ahead, x}); s != "" || e != c.want {
				t.Errorf("Replay of %+v, %+v: %q, %v, not %v", c.ahead, x, s, e, c.want)
			}
		}
	}
}

// Of texts and Chars that the promise leaves out, the call ends.
func TestP92ReplayOfOtherTexts(t *testing.T) {
	for _, text := range []string{"\xff", "a\xc3", "\xed\xa0\x80", "\x80\x80\x80", "\xf8\x88\x80\x80\x80"} {
		for _, char := range []rune{0, -1, 31, 0xd800, 0x110000, math.MaxInt32, math.MinInt32} {
			for at := -1; at < 7; at++ {
				event.Replay(text, []any{in(1, at, char), out(2, at, char), out(3, at, 0xfffd)})
			}
		}
	}
}

// lists tells of all lists of at most most of some things.
func lists(things []any, most int, visit func([]any)) {
	level := [][]any{nil}
	visit(nil)
	for range most {
		var next [][]any
		for _, l := range level {
			for _, x := range things {
				longer := append(slices.Clone(l), x)
				next = append(next, longer)
				visit(longer)
			}
		}
		level = next
	}
}

// wantFollow is what Follow must answer, reckoned without the ends of int64.
func wantFollow(seq int64, l []any) (int64, api.Errno) {
	last := big.NewInt(seq)
	for _, x := range l {
		var from, to int64
		switch reflect.TypeOf(x) {
		case reflect.TypeOf(version.Change{}):
			from = reflect.ValueOf(x).FieldByName("Seq").Int()
			to = from
		case reflect.TypeOf(event.Lag{}):
			from, to = reflect.ValueOf(x).Field(0).Int(), reflect.ValueOf(x).Field(1).Int()
			if from < 1 || to < from {
				return 0, api.ErrForm
			}
		default:
			return 0, api.ErrForm
		}
		if last.Add(last, big.NewInt(1)).Cmp(big.NewInt(from)) != 0 {
			return 0, api.ErrOrder
		}
		last.SetInt64(to)
	}
	return last.Int64(), api.OK
}

func TestP92FollowOfAllShortLists(t *testing.T) {
	const greatest, least = math.MaxInt64, math.MinInt64
	c := in(1, 0, 'a')
	for _, set := range []struct {
		seqs   []int64
		things []any
	}{
		{[]int64{-2, -1, 0, 1, 2, 3}, []any{in(-1, 0, 'a'), in(0, 0, 'a'), c, out(2, 0, 'a'), in(3, 0, 'a'), lag(1, 1), lag(1, 2), lag(2, 2), lag(2, 1), lag(3, 5), lag(0, 1), &c}},
		{[]int64{greatest - 2, greatest - 1, greatest, least, least + 1, 0, -1}, []any{in(greatest-1, 0, 'a'), out(greatest, 0, 'a'), in(least, 0, 'a'), out(least+1, 0, 'a'), lag(greatest-1, greatest), lag(greatest, greatest), lag(1, greatest), lag(greatest, 1), lag(least, least), nil}},
	} {
		lists(set.things, 4, func(l []any) {
			for _, seq := range set.seqs {
				want, wantErr := wantFollow(seq, l)
				if got, e := event.Follow(seq, l); got != want || e != wantErr {
					t.Fatalf("Follow(%d, %+v): %d, %v, not %d, %v", seq, l, got, e, want, wantErr)
				}
			}
		})
	}
}

// wantReplay is what Replay must answer, reckoned with a text a character.
func wantReplay(text string, l []any) (string, api.Errno) {
	row := strings.Split(text, "")
	for _, x := range l {
		c, isChange := x.(version.Change)
		y, isLag := x.(event.Lag)
		switch {
		case isLag && y.From >= 1 && y.To >= y.From:
			return "", api.ErrState
		case !isChange:
			return "", api.ErrForm
		case !c.Del && (c.At < 0 || c.At > len(row)), c.Del && (c.At < 0 || c.At >= len(row)):
			return "", api.ErrRange
		case c.Del && row[c.At] != string(c.Char):
			return "", api.ErrClash
		}
		ahead, behind := strings.Join(row[:c.At], ""), strings.Join(row[c.At:], "")
		if c.Del {
			behind = strings.TrimPrefix(behind, string(c.Char))
		} else {
			ahead += string(c.Char)
		}
		row = strings.Split(ahead+behind, "")
	}
	return strings.Join(row, ""), api.OK
}

func TestP92ReplayOfAllShortLists(t *testing.T) {
	things := []any{lag(1, 1), lag(2, 1), nil}
	for _, char := range []rune{'a', 'é', '日'} {
		for at := range 3 {
			things = append(things, in(1, at, char), out(1, at, char))
		}
	}
	things = append(things, in(1, -1, 'a'), out(1, -1, 'a'))
	for _, text := range []string{"", "a", "é", "日a", "aé日"} {
		lists(things, 3, func(l []any) {
			want, wantErr := wantReplay(text, l)
			if got, e := event.Replay(text, l); got != want || e != wantErr {
				t.Fatalf("Replay(%q, %+v): %q, %v, not %q, %v", text, l, got, e, want, wantErr)
			}
		})
	}
}

// What is handed in, with the room behind its end, stays as it was (R3), and a call
// answers the same again (R5).
func TestP92ThingsStayAsTheyWere(t *testing.T) {
	c, y := in(2, 0, 'b'), lag(3, 4)
	for _, whole := range [][]any{
		{in(1, 0, 'a'), in(2, 1, 'b'), out(3, 0, 'a'), in(4, 0, 'c'), 7, lag(5, 6)},
		{in(1, 0, 'a'), lag(2, 3), in(4, 0, 'b'), &c, &y, "a"},
		{lag(1, 2), in(3, 9, 'a'), lag(4, 3), nil, &y, &c},
		{&c, &y, in(1, 0, 'a'), out(2, 0, 'x'), lag(3, 3), 1.5},
	} {
		for n := range whole {
			kept := slices.Clone(whole)
			l := whole[:n]
			text := "hi"
			changes := event.Changes(l)
			seq, e := event.Follow(0, l)
			replayed, f := event.Replay(text, l)
			if !slices.Equal(whole, kept) || text != "hi" || c != in(2, 0, 'b') || y != lag(3, 4) {
				t.Fatalf("%+v became %+v", kept, whole)
			}
			sameSeq, sameE := event.Follow(0, l)
			sameText, sameF := event.Replay(text, l)
			if !slices.Equal(event.Changes(l), changes) || sameSeq != seq || sameE != e || sameText != replayed || sameF != f {
				t.Fatalf("%+v: not the same again", l)
			}
		}
	}
}
