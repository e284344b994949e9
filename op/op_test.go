package op_test

import (
	"math"
	"math/rand"
	"regexp"
	"slices"
	"strconv"
	"strings"
	"testing"

	"selvedge/api"
	"selvedge/id"
	"selvedge/op"
)

func mk(counter int64, site int) id.ID { return id.ID{Counter: counter, Site: site} }

func ins(a, anchor id.ID, char rune) op.Op {
	return op.Op{Kind: op.Insert, ID: a, Anchor: anchor, Char: char}
}

func del(a id.ID) op.Op { return op.Op{Kind: op.Delete, ID: a} }

var (
	none     = id.ID{}
	greatest = mk(api.MaxCounter, api.MaxSite)
)

// edgeIDs: ids at all edges of both numbers, those that may not be among them.
func edgeIDs() []id.ID {
	counters := []int64{math.MinInt64, -1, 0, 1, 2, 3, api.MaxCounter - 1, api.MaxCounter, api.MaxCounter + 1, math.MaxInt64}
	sites := []int{math.MinInt, -1, 0, 1, 2, api.MaxSite - 1, api.MaxSite, api.MaxSite + 1, math.MaxInt}
	var l []id.ID
	for _, c := range counters {
		for _, s := range sites {
			l = append(l, mk(c, s))
		}
	}
	return l
}

// wrongIDs: those of edgeIDs that may not be, without None.
func wrongIDs() []id.ID {
	return slices.DeleteFunc(edgeIDs(), func(a id.ID) bool { return a == none || a.Check() == api.OK })
}

// goodIDs: those of edgeIDs that may be.
func goodIDs() []id.ID {
	return slices.DeleteFunc(edgeIDs(), func(a id.ID) bool { return a.Check() != api.OK })
}

func goodChars() []rune {
	return []rune{32, 33, 'a', 127, 128, 159, 160, 255, 256, '€', 0xfff, 0x1000, 55294, 55295, 57344, 57345, 0xfffd, 0xfffe, 65535, 65536, 0xfffff, 0x100000, 1114110, 1114111}
}

func wrongChars() []rune {
	return []rune{math.MinInt32, -1114111, -97, -1, 0, 1, 9, 10, 13, 30, 31, 55296, 55297, 56000, 57342, 57343, 1114112, 1114113, 0xffffff, 0x1000000, 0x1000061, math.MaxInt32}
}

func wrongKinds() []op.Kind {
	return []op.Kind{math.MinInt, -1 << 32, -2, -1, 2, 3, 1 << 32, 1<<32 + 1, math.MaxInt}
}

func checks(t *testing.T, o op.Op, want api.Errno) {
	t.Helper()
	if got := o.Check(); got != want {
		t.Errorf("Check of %#v: %v, not %v", o, got, want)
	}
}

func TestP51Check(t *testing.T) {
	for _, c := range []struct {
		o    op.Op
		want api.Errno
	}{
		{ins(mk(2, 1), mk(1, 3), 'a'), api.OK},
		{ins(mk(1, 1), none, 'a'), api.OK},
		{ins(mk(1, 1000), none, 'a'), api.OK},
		{ins(greatest, none, 'a'), api.OK},
		{ins(greatest, mk(1048575, 1000), 1114111), api.OK},
		{ins(greatest, mk(1, 1), 32), api.OK},
		{del(mk(2, 1)), api.OK},
		{del(mk(1, 1)), api.OK},
		{del(greatest), api.OK},
		{op.Op{}, api.ErrRange},
		{op.Op{Kind: 2}, api.ErrForm},
		{del(none), api.ErrRange},

		// the Anchor's Counter: one less, the same, greater
		{ins(mk(7, 1), mk(6, 1), 'a'), api.OK},
		{ins(mk(7, 1), mk(6, 1000), 'a'), api.OK},
		{ins(mk(7, 1), mk(7, 1), 'a'), api.ErrOrder},
		{ins(mk(7, 2), mk(7, 1), 'a'), api.ErrOrder},
		{ins(mk(7, 1), mk(7, 2), 'a'), api.ErrOrder},
		{ins(mk(7, 1000), mk(8, 1), 'a'), api.ErrOrder},
		{ins(mk(1, 1), mk(1, 1), 'a'), api.ErrOrder},
		{ins(mk(1, 1), greatest, 'a'), api.ErrOrder},
		{ins(greatest, mk(1048576, 1), 'a'), api.ErrOrder},

		{ins(none, none, 'a'), api.ErrRange},
		{ins(mk(0, 1), none, 'a'), api.ErrRange},
		{ins(mk(1, 0), none, 'a'), api.ErrRange},
		{ins(mk(1048577, 1), none, 'a'), api.ErrRange},
		{ins(mk(1, 1001), none, 'a'), api.ErrRange},
		{ins(mk(2, 1), mk(0, 1), 'a'), api.ErrRange},
		{ins(mk(2, 1), mk(1, 0), 'a'), api.ErrRange},
		{ins(mk(2, 1), mk(1, 1001), 'a'), api.ErrRange},
		{ins(mk(2, 1), mk(-1, 1), 'a'), api.ErrRange},
		{ins(mk(2, 1), mk(1048577, 1), 'a'), api.ErrRange},
		{del(mk(1, 1001)), api.ErrRange},
		{del(mk(1048577, 1)), api.ErrRange},
	} {
		checks(t, c.o, c.want)
	}
}

func TestP51Chars(t *testing.T) {
	for _, char := range goodChars() {
		checks(t, ins(mk(2, 1), mk(1, 3), char), api.OK)
		checks(t, ins(mk(1, 1), none, char), api.OK)
	}
	for _, char := range wrongChars() {
		checks(t, ins(mk(2, 1), mk(1, 3), char), api.ErrForm)
		checks(t, ins(mk(1, 1), none, char), api.ErrForm)
	}
	for char := rune(-100); char <= 1114200; char++ {
		want := api.ErrForm
		if char >= 32 && char <= 55295 || char >= 57344 && char <= 1114111 {
			want = api.OK
		}
		checks(t, ins(greatest, none, char), want)
	}
}

func TestP51DeleteWithMore(t *testing.T) {
	for _, a := range edgeIDs() {
		for _, anchor := range edgeIDs() {
			if anchor != none {
				checks(t, op.Op{Kind: op.Delete, ID: a, Anchor: anchor}, api.ErrForm)
			}
		}
		for _, char := range append(wrongChars(), goodChars()...) {
			if char != 0 {
				checks(t, op.Op{Kind: op.Delete, ID: a, Char: char}, api.ErrForm)
				checks(t, op.Op{Kind: op.Delete, ID: a, Anchor: mk(1, 1), Char: char}, api.ErrForm)
			}
		}
	}
}

func TestP51Kinds(t *testing.T) {
	if op.Insert != 0 || op.Delete != 1 {
		t.Errorf("Insert %d, Delete %d", op.Insert, op.Delete)
	}
	for _, kind := range wrongKinds() {
		for _, o := range []op.Op{ins(mk(2, 1), mk(1, 3), 'a'), ins(mk(1, 1), none, 'a'), del(mk(1, 1)), {}} {
			o.Kind = kind
			checks(t, o, api.ErrForm)
		}
	}
}

// Where several errors apply, the first one is told.
func TestP51FirstError(t *testing.T) {
	for _, c := range []struct {
		o    op.Op
		want api.Errno
	}{
		// the kind ahead of all
		{op.Op{Kind: 2, ID: mk(0, 1), Anchor: mk(5, 1001), Char: 31}, api.ErrForm},
		{op.Op{Kind: -1, ID: mk(1, 1), Anchor: mk(1, 1), Char: 'a'}, api.ErrForm},
		// what a Delete has beside its ID ahead of the ranges
		{op.Op{Kind: op.Delete, Anchor: mk(1, 1)}, api.ErrForm},
		{op.Op{Kind: op.Delete, Char: 'a'}, api.ErrForm},
		{op.Op{Kind: op.Delete, ID: mk(1, 1001), Anchor: mk(1, 1001)}, api.ErrForm},
		{op.Op{Kind: op.Delete, ID: mk(1, 1), Anchor: mk(5, 1)}, api.ErrForm},
		// the ranges ahead of the order
		{ins(mk(0, 1), mk(5, 1), 'a'), api.ErrRange},
		{ins(mk(5, 1001), mk(5, 1), 'a'), api.ErrRange},
		{ins(mk(5, 1), mk(5, 1001), 'a'), api.ErrRange},
		{ins(mk(5, 1), mk(5, 0), 'a'), api.ErrRange},
		{ins(mk(math.MinInt64, 1), none, 'a'), api.ErrRange},
		// the ranges ahead of the Char
		{ins(none, none, 31), api.ErrRange},
		{ins(mk(2, 1), mk(1, 1001), 55296), api.ErrRange},
		{ins(mk(2, 1), mk(0, 1), 0), api.ErrRange},
		// the order ahead of the Char
		{ins(mk(2, 1), mk(2, 1), 31), api.ErrOrder},
		{ins(mk(2, 1), mk(3, 1), 1114112), api.ErrOrder},
		{ins(mk(2, 1), mk(2, 2), 0), api.ErrOrder},
	} {
		checks(t, c.o, c.want)
	}
}

// wantCheck tells what Check must answer, by the numbers alone.
func wantCheck(o op.Op) api.Errno {
	inside := func(a id.ID) bool {
		return 1 <= a.Counter && a.Counter <= 1048576 && 1 <= a.Site && a.Site <= 1000
	}
	switch {
	case o.Kind != 0 && o.Kind != 1:
		return api.ErrForm
	case o.Kind == 1 && o != op.Op{Kind: 1, ID: o.ID}:
		return api.ErrForm
	case !inside(o.ID):
		return api.ErrRange
	case o.Anchor != id.ID{} && !inside(o.Anchor):
		return api.ErrRange
	case o.Anchor != id.ID{} && o.Anchor.Counter >= o.ID.Counter:
		return api.ErrOrder
	case o.Kind == 0 && (o.Char < 32 || o.Char >= 55296 && o.Char <= 57343 || o.Char > 1114111):
		return api.ErrForm
	}
	return api.OK
}

// everyOp visits operations of all edges together.
func everyOp(visit func(op.Op)) {
	chars := append([]rune{-1, 0, 31, 55296, 57343, 1114112, math.MaxInt32, math.MinInt32}, 32, 'a', 55295, 57344, 1114111)
	for _, kind := range []op.Kind{-1, op.Insert, op.Delete, 2, math.MaxInt} {
		for _, a := range edgeIDs() {
			for _, anchor := range edgeIDs() {
				for _, char := range chars {
					visit(op.Op{Kind: kind, ID: a, Anchor: anchor, Char: char})
				}
			}
		}
	}
}

func TestP51CheckOfAllEdges(t *testing.T) {
	everyOp(func(o op.Op) {
		if got, want := o.Check(), wantCheck(o); got != want {
			t.Fatalf("Check of %#v: %v, not %v", o, got, want)
		}
	})
}

func TestP52String(t *testing.T) {
	for _, c := range []struct {
		o    op.Op
		want string
	}{
		{ins(mk(2, 1), mk(1, 3), 'a'), "+2.1 1.3 61"},
		{ins(mk(1, 1), none, 'a'), "+1.1 - 61"},
		{ins(mk(12, 3), mk(4, 5), '€'), "+12.3 4.5 20ac"},
		{ins(mk(1, 1), none, 32), "+1.1 - 20"},
		{ins(mk(1, 1), none, 127), "+1.1 - 7f"},
		{ins(mk(1, 1), none, 128), "+1.1 - 80"},
		{ins(mk(1, 1), none, 0x100), "+1.1 - 100"},
		{ins(mk(1, 1), none, 0xabc), "+1.1 - abc"},
		{ins(mk(1, 1), none, 55295), "+1.1 - d7ff"},
		{ins(mk(1, 1), none, 57344), "+1.1 - e000"},
		{ins(mk(1, 1), none, 0x1f600), "+1.1 - 1f600"},
		{ins(greatest, mk(1048575, 1000), 1114111), "+1048576.1000 1048575.1000 10ffff"},
		{del(mk(2, 1)), "-2.1"},
		{del(mk(1, 1)), "-1.1"},
		{del(greatest), "-1048576.1000"},

		{op.Op{}, "?"},
		{op.Op{Kind: 2}, "?"},
		{op.Op{Kind: 2, ID: mk(2, 1), Anchor: mk(1, 3), Char: 'a'}, "?"},
		{op.Op{Kind: -1, ID: mk(2, 1)}, "?"},
		{ins(none, none, 'a'), "?"},
		{ins(mk(1, 1001), none, 'a'), "?"},
		{ins(mk(2, 1), mk(1, 1001), 'a'), "?"},
		{ins(mk(2, 1), mk(0, 1), 'a'), "?"},
		{ins(mk(2, 1), mk(2, 1), 'a'), "?"},
		{ins(mk(2, 1), mk(3, 1), 'a'), "?"},
		{ins(mk(2, 1), none, 31), "?"},
		{ins(mk(2, 1), none, 55296), "?"},
		{ins(mk(2, 1), none, 1114112), "?"},
		{ins(mk(2, 1), none, -97), "?"},
		{del(none), "?"},
		{del(mk(1048577, 1)), "?"},
		{op.Op{Kind: op.Delete, ID: mk(2, 1), Anchor: mk(1, 1)}, "?"},
		{op.Op{Kind: op.Delete, ID: mk(2, 1), Char: 'a'}, "?"},
	} {
		if got := c.o.String(); got != c.want {
			t.Errorf("String of %#v: %q, not %q", c.o, got, c.want)
		}
	}
}

func TestP52StringOfAllEdges(t *testing.T) {
	everyOp(func(o op.Op) {
		want := "?"
		if wantCheck(o) == api.OK {
			want = "-" + o.ID.String()
			if o.Kind == op.Insert {
				want = "+" + o.ID.String() + " " + o.Anchor.String() + " " + strconv.FormatInt(int64(o.Char), 16)
			}
		}
		if got := o.String(); got != want {
			t.Fatalf("String of %#v: %q, not %q", o, got, want)
		}
	})
}

func parses(t *testing.T, s string, want op.Op, wantErr api.Errno) {
	t.Helper()
	if got, e := op.Parse(s); got != want || e != wantErr {
		t.Errorf("Parse(%q): %#v, %v, not %#v, %v", s, got, e, want, wantErr)
	}
}

func TestP52Parse(t *testing.T) {
	for s, want := range map[string]op.Op{
		"+2.1 1.3 61":                       ins(mk(2, 1), mk(1, 3), 'a'),
		"+1.1 - 61":                         ins(mk(1, 1), none, 'a'),
		"+12.3 4.5 20ac":                    ins(mk(12, 3), mk(4, 5), '€'),
		"+1.1 - 20":                         ins(mk(1, 1), none, 32),
		"+1.1 - d7ff":                       ins(mk(1, 1), none, 55295),
		"+1.1 - e000":                       ins(mk(1, 1), none, 57344),
		"+1.1 - 10ffff":                     ins(mk(1, 1), none, 1114111),
		"+1.1 - abcde":                      ins(mk(1, 1), none, 0xabcde),
		"+1.1 - f9":                         ins(mk(1, 1), none, 0xf9),
		"+7.1 6.1000 61":                    ins(mk(7, 1), mk(6, 1000), 'a'),
		"+1048576.1000 1048575.1000 10ffff": ins(greatest, mk(1048575, 1000), 1114111),
		"-2.1":                              del(mk(2, 1)),
		"-1.1":                              del(mk(1, 1)),
		"-1048576.1000":                     del(greatest),
	} {
		parses(t, s, want, api.OK)
	}
}

func TestP52ParseOfWrongForms(t *testing.T) {
	for _, s := range []string{
		"", "+", "-", " ", "?", "x", "61", "1.1", "+ ", "+  ", "- ",
		// another sign ahead, or more than one
		"*1.1 - 61", "1.1 - 61", "=1.1", "?1.1", " +1.1 - 61", " -1.1", "++1.1 - 61", "+-1.1 - 61", "-+1.1", "--1.1", "\uff0b1.1 - 61", "\u22121.1", "\x00-1.1",
		// blanks too few, or too many, or others
		"+1.1", "+1.1 ", "+1.1 -", "+1.1 - ", "+1.1-61", "+1.1- 61", "+1.1 -61", "+1.161", "+2.1 1.361",
		"+ 1.1 - 61", "+1.1  - 61", "+1.1 -  61", "+1.1 - 61 ", "+1.1  61", "+1.1   61", "+  61", "+ - 61", "+1.1\t-\t61", "+1.1\n-\n61", "+1.1\u00a0-\u00a061",
		"- 1.1", "-1.1 ", "-1 .1",
		// something behind the end
		"+1.1 - 61 62", "+1.1 - 61\n", "+1.1 - 61\x00", "+1.1 - 61,", "-1.1 -", "-1.1 - 61", "-1.1 61", "-1.1\n", "-1.1.1", "-1.1+1.1 - 61", "+1.1 - 61-1.1",
		// digits that aren't so
		"+1.1 - 6A", "+1.1 - 20AC", "+1.1 - F9", "+1.1 - 6g", "+1.1 - g", "+1.1 - `", "+1.1 - :", "+1.1 - /", "+1.1 - @",
		"+1.1 - 1000000", "+1.1 - 0000061", "+1.1 - 10ffff0", "+1.1 - 100000061", "+1.1 - 10000000000000061",
		"+1.1 - 061", "+1.1 - 000061", "+1.1 - 00", "+1.1 - 020", "+1.1 - 0x61", "+1.1 - x61", "+1.1 - -61", "+1.1 - +61", "+1.1 - 6_1", "+1.1 - 61h", "+1.1 - 6.1", "+1.1 - U+61", "+1.1 - \uff16\uff11", "+1.1 - 6\xff",
		// ids that aren't so
		"+1 - 61", "+01.1 - 61", "+1.01 - 61", "+1. - 61", "+.1 - 61", "+x.1 - 61", "+1.1.1 - 61", "+? - 61",
		"+2.1 1 61", "+2.1 01.1 61", "+2.1 1.01 61", "+2.1 -- 61", "+2.1 -1.1 61", "+2.1 +1.1 61", "+2.1 x 61", "+2.1 ? 61",
		"-1", "-01.1", "-1.01", "-.", "-.1", "-1.", "-x", "-?", "---",
		// Chars that aren't an Insert's
		"+1.1 - 0", "+1.1 - 1", "+1.1 - 1f", "+1.1 - d800", "+1.1 - dbff", "+1.1 - dc00", "+1.1 - dfff", "+1.1 - 110000", "+1.1 - 110061", "+1.1 - ffffff",
	} {
		parses(t, s, op.Op{}, api.ErrForm)
	}
}

func TestP52ParseOfWrongIDs(t *testing.T) {
	nines := strings.Repeat("9", 100)
	for _, wrong := range []string{"0.0", "0.1", "1.0", "1048577.1", "1.1001", "1048577.1001", "18446744073709551617.1", "1.18446744073709551617", nines + ".1", "1." + nines} {
		parses(t, "+"+wrong+" - 61", op.Op{}, api.ErrRange)
		parses(t, "+"+wrong+" 1.1 61", op.Op{}, api.ErrRange)
		parses(t, "+9.1 "+wrong+" 61", op.Op{}, api.ErrRange)
		parses(t, "-"+wrong, op.Op{}, api.ErrRange)
	}
	for _, s := range []string{"+- - 61", "+- 1.1 61", "--"} {
		parses(t, s, op.Op{}, api.ErrRange)
	}
	for _, s := range []string{"+1.1 1.1 61", "+7.2 7.1 61", "+7.1 7.2 61", "+7.1 8.1 61", "+1.1 1048576.1000 61", "+1048576.1 1048576.1 61"} {
		parses(t, s, op.Op{}, api.ErrOrder)
	}
}

// Where several errors apply, the first one is told.
func TestP52FirstError(t *testing.T) {
	for _, c := range []struct {
		s    string
		want api.Errno
	}{
		// that it isn't written so, ahead of what its ids are
		{"*0.1 - 61", api.ErrForm},
		{"+0.1", api.ErrForm},
		{"+0.1 - ", api.ErrForm},
		{"+0.1 - 6A", api.ErrForm},
		{"+0.1 - 061", api.ErrForm},
		{"+0.1 - 1000000", api.ErrForm},
		{"+0.1 - 61 ", api.ErrForm},
		{"+0.1  - 61", api.ErrForm},
		{"+2.1 1.1001 00", api.ErrForm},
		{"+2.1 2.1 6A", api.ErrForm},
		{"-0.1 - 61", api.ErrForm},
		{"-0.1 ", api.ErrForm},
		// the form of either id ahead of the range of either
		{"+0.1 01.1 61", api.ErrForm},
		{"+0.1 x 61", api.ErrForm},
		{"+0.1 ? 61", api.ErrForm},
		{"+1.1001 x 61", api.ErrForm},
		{"+1.1001 1 61", api.ErrForm},
		{"+1048577.1 01.1 61", api.ErrForm},
		{"+9999999.1  1", api.ErrForm},
		{"+9999999.1  61", api.ErrForm},
		{"+0.1 1.1. 61", api.ErrForm},
		{"+0.1 0.1.1 61", api.ErrForm},
		{"+0.1 -- 61", api.ErrForm},
		{"+01.1 0.1 61", api.ErrForm},
		{"+x 1.1001 61", api.ErrForm},
		{"+ 1.1001 61", api.ErrForm},
		// the other id's form ahead of the first one's being None, which the Check tells
		{"+- 01.1 61", api.ErrForm},
		// the range of either id, where both are written so
		{"+0.1 0.1 61", api.ErrRange},
		{"+1.1001 - 61", api.ErrRange},
		{"+1.1 1048577.1 61", api.ErrRange},
		{"+- 1.1001 61", api.ErrRange},
		// the ids' errors ahead of the Check's
		{"+2.1 x 1f", api.ErrForm},
		{"+2.1 2.1001 1f", api.ErrRange},
		{"+0.1 5.1 61", api.ErrRange},
		{"+0.1 - 0", api.ErrRange},
		{"+0.1 - 1f", api.ErrRange},
		{"+0.1 - d800", api.ErrRange},
		{"+2.1 1.1001 110000", api.ErrRange},
		{"+- - 1f", api.ErrRange},
		{"+- 5.1 61", api.ErrRange},
		// the Check's, in their order
		{"+2.1 2.1 1f", api.ErrOrder},
		{"+2.1 2.1 0", api.ErrOrder},
		{"+2.1 3.1 110000", api.ErrOrder},
		{"+2.1 3.1 dfff", api.ErrOrder},
		{"+2.1 3.1 ffffff", api.ErrOrder},
	} {
		parses(t, c.s, op.Op{}, c.want)
	}
}

const formOfID = `-|(?:0|[1-9][0-9]*)\.(?:0|[1-9][0-9]*)`

var (
	formOfInsert = regexp.MustCompile(`\A\+(` + formOfID + `) (` + formOfID + `) (0|[1-9a-f][0-9a-f]{0,5})\z`)
	formOfDelete = regexp.MustCompile(`\A-(` + formOfID + `)\z`)
)

// wantParse tells what Parse must answer, by other means.
func wantParse(s string) (op.Op, api.Errno) {
	var o op.Op
	if m := formOfInsert.FindStringSubmatch(s); m != nil {
		a, e := id.Parse(m[1])
		if e != api.OK {
			return op.Op{}, e
		}
		b, e := id.Parse(m[2])
		if e != api.OK {
			return op.Op{}, e
		}
		n, _ := strconv.ParseInt(m[3], 16, 32)
		o = ins(a, b, rune(n))
	} else if m := formOfDelete.FindStringSubmatch(s); m != nil {
		a, e := id.Parse(m[1])
		if e != api.OK {
			return op.Op{}, e
		}
		o = del(a)
	} else {
		return op.Op{}, api.ErrForm
	}
	if e := wantCheck(o); e != api.OK {
		return op.Op{}, e
	}
	return o, api.OK
}

func parsesAsWanted(t *testing.T, s string) {
	t.Helper()
	want, wantErr := wantParse(s)
	if got, e := op.Parse(s); got != want || e != wantErr {
		t.Fatalf("Parse(%q): %#v, %v, not %#v, %v", s, got, e, want, wantErr)
	}
}

// rows visits all rows of at most most of some pieces, joined.
func rows(pieces []string, most int, visit func(string)) {
	visit("")
	if most == 0 {
		return
	}
	for _, p := range pieces {
		rows(pieces, most-1, func(s string) { visit(p + s) })
	}
}

func TestP52ParseOfAllShortTexts(t *testing.T) {
	rows([]string{"+", "-", " ", ".", "0", "1", "2", "a", "A", "?"}, 5, func(s string) { parsesAsWanted(t, s) })
	rows([]string{"-", " ", "1.1", "2.1", "0.1", "1.1001", "61", "1f", "0", "x"}, 5, func(s string) {
		parsesAsWanted(t, "+"+s)
		parsesAsWanted(t, "-"+s)
	})
}

// Each byte of a text is left out, stands twice, and has another one in its place.
func TestP52ParseOfTextsNearby(t *testing.T) {
	for _, s := range []string{"+2.1 1.3 61", "+1.1 - 20ac", "+12.30 11.999 10ffff", "-2.1", "-1048576.1000"} {
		for i := range len(s) {
			parsesAsWanted(t, s[:i])
			parsesAsWanted(t, s[i:])
			parsesAsWanted(t, s[:i]+s[i+1:])
			for b := range 256 {
				c := string([]byte{byte(b)})
				parsesAsWanted(t, s[:i]+c+s[i:])
				parsesAsWanted(t, s[:i]+c+s[i+1:])
				parsesAsWanted(t, s+c)
			}
		}
	}
}

func TestP52ParseOfLongTexts(t *testing.T) {
	for _, c := range []string{"+", "-", " ", "0", "1", "1.", "a", "1.1 ", "\xff", "€"} {
		long := strings.Repeat(c, 100000)
		for _, s := range []string{long, "+" + long, "-" + long, "+1.1 - " + long, "+2.1 " + long + " 61", "+" + long + " - 61", "+1.1 - 61" + long} {
			parsesAsWanted(t, s)
		}
	}
}

// again has an operation written, and read.
func again(t *testing.T, o op.Op) {
	t.Helper()
	if got, e := op.Parse(o.String()); got != o || e != api.OK {
		t.Fatalf("%#v, written %q, is read %#v, %v", o, o.String(), got, e)
	}
}

func TestP53WhatIsWrittenIsReadAsItWas(t *testing.T) {
	for _, a := range goodIDs() {
		again(t, del(a))
		for _, char := range goodChars() {
			again(t, ins(a, none, char))
			for _, anchor := range goodIDs() {
				if anchor.Counter < a.Counter {
					again(t, ins(a, anchor, char))
				}
			}
		}
	}
}

func TestP53EachChar(t *testing.T) {
	for char := rune(32); char <= 1114111; char++ {
		if char < 55296 || char > 57343 {
			again(t, ins(mk(2, 1), mk(1, 3), char))
		}
	}
}

func TestP53ManyIDs(t *testing.T) {
	r := rand.New(rand.NewSource(5))
	for range 100000 {
		a := mk(r.Int63n(api.MaxCounter-1)+2, r.Intn(api.MaxSite)+1)
		again(t, del(a))
		again(t, ins(a, mk(r.Int63n(a.Counter-1)+1, r.Intn(api.MaxSite)+1), rune(r.Intn(50000)+32)))
	}
}

func TestP53WhatIsReadIsWrittenAsItWas(t *testing.T) {
	n := 0
	rows([]string{"+", "-", " ", "1.1", "2.1", "1.2", "61", "e", "0"}, 6, func(s string) {
		if o, e := op.Parse(s); e == api.OK {
			n++
			if o.String() != s {
				t.Fatalf("%q is read %#v, written %q", s, o, o.String())
			}
		}
	})
	if n == 0 {
		t.Error("nothing was read")
	}
}

// What may not be isn't written as anything that can be read.
func TestP53WhatMayNotBeIsNotRead(t *testing.T) {
	for _, a := range wrongIDs() {
		for _, o := range []op.Op{ins(a, none, 'a'), ins(greatest, a, 'a'), del(a)} {
			parses(t, o.String(), op.Op{}, api.ErrForm)
		}
	}
	for _, char := range wrongChars() {
		parses(t, ins(mk(1, 1), none, char).String(), op.Op{}, api.ErrForm)
	}
}
