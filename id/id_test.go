package id_test

import (
	"math"
	"math/big"
	"regexp"
	"slices"
	"strings"
	"testing"

	"selvedge/api"
	"selvedge/id"
)

func mk(counter int64, site int) id.ID { return id.ID{Counter: counter, Site: site} }

// edgeIDs: ids at all edges of both numbers, rising, those that may not be among them.
func edgeIDs() []id.ID {
	counters := []int64{math.MinInt64, -1, 0, 1, 2, 9, 10, api.MaxCounter - 1, api.MaxCounter, api.MaxCounter + 1, math.MaxInt64}
	sites := []int{math.MinInt, -1, 0, 1, 2, 9, 10, api.MaxSite - 1, api.MaxSite, api.MaxSite + 1, math.MaxInt}
	var l []id.ID
	for _, c := range counters {
		for _, s := range sites {
			l = append(l, mk(c, s))
		}
	}
	return l
}

func TestP11Check(t *testing.T) {
	for _, c := range []struct {
		a    id.ID
		want api.Errno
	}{
		{mk(1, 1), api.OK},
		{mk(12, 7), api.OK},
		{mk(1048576, 1000), api.OK},
		{mk(1048576, 1), api.OK},
		{mk(1, 1000), api.OK},
		{mk(0, 0), api.ErrRange},
		{mk(0, 1), api.ErrRange},
		{mk(1, 0), api.ErrRange},
		{mk(-1, 1), api.ErrRange},
		{mk(1, -1), api.ErrRange},
		{mk(1048577, 1), api.ErrRange},
		{mk(1, 1001), api.ErrRange},
		{mk(1048577, 1001), api.ErrRange},
		{mk(math.MinInt64, 1), api.ErrRange},
		{mk(math.MaxInt64, 1), api.ErrRange},
		{mk(1, math.MinInt), api.ErrRange},
		{mk(1, math.MaxInt), api.ErrRange},
		{mk(1<<32+1, 1), api.ErrRange},
	} {
		if got := c.a.Check(); got != c.want {
			t.Errorf("Check of %d %d: %v, not %v", c.a.Counter, c.a.Site, got, c.want)
		}
	}
}

func TestP11Less(t *testing.T) {
	// rising: each is below all that come behind it.
	rising := []id.ID{{}, mk(1, 1), mk(1, 2), mk(1, 1000), mk(2, 1), mk(3, 1), mk(3, 2), mk(4, 1), mk(10, 1), mk(1048576, 999), mk(1048576, 1000)}
	for _, l := range [][]id.ID{rising, edgeIDs()} {
		for i, a := range l {
			for k, b := range l {
				if got := a.Less(b); got != (i < k) {
					t.Errorf("%+v Less %+v: %v", a, b, got)
				}
			}
		}
	}
}

func TestP11None(t *testing.T) {
	for _, a := range append(edgeIDs(), mk(3, 2)) {
		if got, want := a.None(), a.Counter == 0 && a.Site == 0; got != want {
			t.Errorf("None of %+v: %v", a, got)
		}
	}
}

func TestP11String(t *testing.T) {
	for _, c := range []struct {
		a    id.ID
		want string
	}{
		{id.ID{}, "-"},
		{mk(1, 1), "1.1"},
		{mk(3, 2), "3.2"},
		{mk(10, 100), "10.100"},
		{mk(1048576, 1000), "1048576.1000"},
		{mk(1, 0), "?"},
		{mk(0, 1), "?"},
		{mk(-1, 1), "?"},
		{mk(1, -1), "?"},
		{mk(1048577, 1000), "?"},
		{mk(1048576, 1001), "?"},
		{mk(math.MinInt64, math.MinInt), "?"},
		{mk(math.MaxInt64, math.MaxInt), "?"},
	} {
		if got := c.a.String(); got != c.want {
			t.Errorf("String of %+v: %q, not %q", c.a, got, c.want)
		}
	}
}

func TestP11Least(t *testing.T) {
	for _, c := range []struct {
		l    []id.ID
		want id.ID
	}{
		{nil, id.ID{}},
		{[]id.ID{}, id.ID{}},
		{[]id.ID{mk(5, 5)}, mk(5, 5)},
		{[]id.ID{mk(2, 3), mk(2, 3)}, mk(2, 3)},
		{[]id.ID{mk(4, 1), mk(3, 2), mk(3, 1)}, mk(3, 1)},
		{[]id.ID{mk(3, 1), mk(3, 2), mk(4, 1)}, mk(3, 1)},
		{[]id.ID{mk(3, 2), mk(3, 1), mk(4, 1)}, mk(3, 1)},
		{[]id.ID{mk(2, 1000), mk(10, 1)}, mk(2, 1000)},
		{[]id.ID{mk(2, 1), {}, mk(1, 1)}, id.ID{}},
		{[]id.ID{{}, mk(-1, 5)}, mk(-1, 5)},
		{[]id.ID{mk(math.MaxInt64, 0), mk(math.MinInt64, 0), mk(0, 0)}, mk(math.MinInt64, 0)},
		{[]id.ID{mk(1, math.MaxInt), mk(1, math.MinInt)}, mk(1, math.MinInt)},
	} {
		if got := id.Least(c.l...); got != c.want {
			t.Errorf("Least of %+v: %+v, not %+v", c.l, got, c.want)
		}
	}
}

// What is handed in, with the room behind its end, stays as it was (R3).
func TestP11LeastLeavesItsArguments(t *testing.T) {
	whole := []id.ID{mk(4, 1), mk(3, 2), mk(3, 1), mk(1, 1)}
	kept := slices.Clone(whole)
	if got := id.Least(whole[:3]...); got != mk(3, 1) {
		t.Errorf("Least: %+v", got)
	}
	if !slices.Equal(whole, kept) {
		t.Errorf("Least changed its arguments: %+v", whole)
	}
}

func TestP12Parse(t *testing.T) {
	nines := strings.Repeat("9", 100)
	for _, c := range []struct {
		s    string
		want id.ID
		e    api.Errno
	}{
		{"-", id.ID{}, api.OK},
		{"1.1", mk(1, 1), api.OK},
		{"12.7", mk(12, 7), api.OK},
		{"10.100", mk(10, 100), api.OK},
		{"1048576.1000", mk(1048576, 1000), api.OK},

		{"0.0", id.ID{}, api.ErrRange},
		{"0.1", id.ID{}, api.ErrRange},
		{"1.0", id.ID{}, api.ErrRange},
		{"1048577.1", id.ID{}, api.ErrRange},
		{"1.1001", id.ID{}, api.ErrRange},
		{"999999999999999999.1", id.ID{}, api.ErrRange},
		{"1000000000000000000.1", id.ID{}, api.ErrRange},
		{"18446744073709551617.1", id.ID{}, api.ErrRange},
		{"1.18446744073709551617", id.ID{}, api.ErrRange},
		{"1.4294967297", id.ID{}, api.ErrRange},
		{nines + ".1", id.ID{}, api.ErrRange},
		{"1." + nines, id.ID{}, api.ErrRange},

		{"", id.ID{}, api.ErrForm},
		{".", id.ID{}, api.ErrForm},
		{"1", id.ID{}, api.ErrForm},
		{"1.", id.ID{}, api.ErrForm},
		{".1", id.ID{}, api.ErrForm},
		{"1..1", id.ID{}, api.ErrForm},
		{"1.1.", id.ID{}, api.ErrForm},
		{".1.1", id.ID{}, api.ErrForm},
		{"1.1.1", id.ID{}, api.ErrForm},
		{"01.1", id.ID{}, api.ErrForm},
		{"1.01", id.ID{}, api.ErrForm},
		{"00.1", id.ID{}, api.ErrForm},
		{"1.00", id.ID{}, api.ErrForm},
		{"--", id.ID{}, api.ErrForm},
		{"-.-", id.ID{}, api.ErrForm},
		{"-1.1", id.ID{}, api.ErrForm},
		{"1.-1", id.ID{}, api.ErrForm},
		{"+1.1", id.ID{}, api.ErrForm},
		{" 1.1", id.ID{}, api.ErrForm},
		{"1.1 ", id.ID{}, api.ErrForm},
		{"1 .1", id.ID{}, api.ErrForm},
		{"- ", id.ID{}, api.ErrForm},
		{"1.1\n", id.ID{}, api.ErrForm},
		{"1.1\x00", id.ID{}, api.ErrForm},
		{"1,1", id.ID{}, api.ErrForm},
		{"1_0.1", id.ID{}, api.ErrForm},
		{"0x1.1", id.ID{}, api.ErrForm},
		{"1e1.1", id.ID{}, api.ErrForm},
		{"/.1", id.ID{}, api.ErrForm},
		{":.1", id.ID{}, api.ErrForm},
		{"a.b", id.ID{}, api.ErrForm},
		{"?", id.ID{}, api.ErrForm},
		{"\u0661.1", id.ID{}, api.ErrForm},
		{"1.\uff11", id.ID{}, api.ErrForm},
		{"\xff.1", id.ID{}, api.ErrForm},

		// the form comes ahead of the range
		{"0.01", id.ID{}, api.ErrForm},
		{"1048577.x", id.ID{}, api.ErrForm},
		{nines + ".01", id.ID{}, api.ErrForm},
		{"0" + nines + ".1", id.ID{}, api.ErrForm},
		{nines + "x.1", id.ID{}, api.ErrForm},
	} {
		if got, e := id.Parse(c.s); got != c.want || e != c.e {
			t.Errorf("Parse(%q): %+v, %v, not %+v, %v", c.s, got, e, c.want, c.e)
		}
	}
}

// texts: all of at most most bytes of an alphabet.
func texts(alphabet string, most int, visit func(string)) {
	visit("")
	level := []string{""}
	for range most {
		var next []string
		for _, s := range level {
			for i := range len(alphabet) {
				next = append(next, s+alphabet[i:i+1])
				visit(s + alphabet[i:i+1])
			}
		}
		level = next
	}
}

var formOfID = regexp.MustCompile(`\A(0|[1-9][0-9]*)\.(0|[1-9][0-9]*)\z`)

// wantParse tells what Parse must answer, by other means.
func wantParse(s string) (id.ID, api.Errno) {
	if s == "-" {
		return id.ID{}, api.OK
	}
	m := formOfID.FindStringSubmatch(s)
	if m == nil {
		return id.ID{}, api.ErrForm
	}
	counter, _ := new(big.Int).SetString(m[1], 10)
	site, _ := new(big.Int).SetString(m[2], 10)
	inside := func(n *big.Int, most int64) bool { return n.Sign() > 0 && n.Cmp(big.NewInt(most)) <= 0 }
	if !inside(counter, 1048576) || !inside(site, 1000) {
		return id.ID{}, api.ErrRange
	}
	return mk(counter.Int64(), int(site.Int64())), api.OK
}

func TestP12ParseOfAllShortTexts(t *testing.T) {
	texts("0129.-+ x", 6, func(s string) {
		want, wantErr := wantParse(s)
		if got, e := id.Parse(s); got != want || e != wantErr {
			t.Fatalf("Parse(%q): %+v, %v, not %+v, %v", s, got, e, want, wantErr)
		}
	})
}

func TestP12ParseOfEveryByte(t *testing.T) {
	for b := range 256 {
		c := string([]byte{byte(b)})
		for _, s := range []string{c, c + ".1", "1." + c, "1" + c + "1", c + "1.1", "1.1" + c} {
			want, wantErr := wantParse(s)
			if got, e := id.Parse(s); got != want || e != wantErr {
				t.Errorf("Parse(%q): %+v, %v, not %+v, %v", s, got, e, want, wantErr)
			}
		}
	}
}

func TestP12Number(t *testing.T) {
	for _, c := range []struct {
		s    string
		most int64
		want int64
		ok   bool
	}{
		{"0", 0, 0, true},
		{"0", 5, 0, true},
		{"7", 9, 7, true},
		{"10", 10, 10, true},
		{"100", 100, 100, true},
		{"1000000", 1000000, 1000000, true},
		{"123456789012345678", math.MaxInt64, 123456789012345678, true},
		{"999999999999999999", math.MaxInt64, 999999999999999999, true},
		{"999999999999999999", 999999999999999999, 999999999999999999, true},

		{"100", 99, 0, false},
		{"1", 0, 0, false},
		{"0", -1, 0, false},
		{"0", math.MinInt64, 0, false},
		{"999999999999999999", 999999999999999998, 0, false},
		{"1000000000000000000", math.MaxInt64, 0, false},
		{"9223372036854775807", math.MaxInt64, 0, false},
		{"18446744073709551617", math.MaxInt64, 0, false},
		{strings.Repeat("9", 1000), math.MaxInt64, 0, false},
		{strings.Repeat("0", 1000), math.MaxInt64, 0, false},

		{"", 9, 0, false},
		{"00", 9, 0, false},
		{"01", 9, 0, false},
		{"-", 9, 0, false},
		{"-1", 9, 0, false},
		{"-0", 9, 0, false},
		{"+1", 9, 0, false},
		{" 1", 9, 0, false},
		{"1 ", 9, 0, false},
		{"1\n", 9, 0, false},
		{"1_0", 99, 0, false},
		{"1.0", 99, 0, false},
		{"0x1", 99, 0, false},
		{"1e1", 99, 0, false},
		{"a", 99, 0, false},
		{"/", 99, 0, false},
		{":", 99, 0, false},
		{"\u0661", 99, 0, false},
		{"\xff", 999, 0, false},
	} {
		if got, ok := id.Number(c.s, c.most); got != c.want || ok != c.ok {
			t.Errorf("Number(%q, %d): %d, %v, not %d, %v", c.s, c.most, got, ok, c.want, c.ok)
		}
	}
}

var formOfNumber = regexp.MustCompile(`\A(0|[1-9][0-9]{0,17})\z`)

func TestP12NumberOfAllShortTexts(t *testing.T) {
	texts("019.-+ x", 4, func(s string) {
		for _, most := range []int64{math.MinInt64, -1, 0, 1, 9, 10, 999, math.MaxInt64} {
			var want int64
			ok := formOfNumber.MatchString(s)
			if ok {
				n, _ := new(big.Int).SetString(s, 10)
				want = n.Int64()
			}
			if want > most {
				ok = false
			}
			if !ok {
				want = 0
			}
			if got, gotOK := id.Number(s, most); got != want || gotOK != ok {
				t.Fatalf("Number(%q, %d): %d, %v, not %d, %v", s, most, got, gotOK, want, ok)
			}
		}
	})
}

func TestP13WhatIsWrittenIsReadAsItWas(t *testing.T) {
	again := func(a id.ID) {
		if got, e := id.Parse(a.String()); got != a || e != api.OK {
			t.Fatalf("%+v, written %q, is read %+v, %v", a, a.String(), got, e)
		}
	}
	again(id.ID{})
	for counter := int64(1); counter <= api.MaxCounter; counter++ {
		again(mk(counter, int(counter%api.MaxSite)+1))
	}
	for site := 1; site <= api.MaxSite; site++ {
		again(mk(1, site))
		again(mk(api.MaxCounter, site))
	}
}

func TestP13WhatIsReadIsWrittenAsItWas(t *testing.T) {
	texts("019.-", 7, func(s string) {
		if a, e := id.Parse(s); e == api.OK && a.String() != s {
			t.Fatalf("%q is read %+v, written %q", s, a, a.String())
		}
	})
}

// What may not be isn't written as anything that can be read.
func TestP13WhatMayNotBeIsNotRead(t *testing.T) {
	for _, a := range edgeIDs() {
		if a.None() || a.Check() == api.OK {
			continue
		}
		if got, e := id.Parse(a.String()); got != (id.ID{}) || e != api.ErrForm {
			t.Errorf("%+v, written %q, is read %+v, %v", a, a.String(), got, e)
		}
	}
}

func TestP13Order(t *testing.T) {
	var l []id.ID
	for _, c := range []int64{1, 2, 3, 9, 10, 99, 999, 1000, 1001, api.MaxCounter - 1, api.MaxCounter} {
		for _, s := range []int{1, 2, 3, 9, 10, 99, 998, 999, api.MaxSite} {
			l = append(l, mk(c, s))
		}
	}
	for _, a := range l {
		if a.Check() != api.OK {
			t.Fatalf("%+v may not be", a)
		}
		if !(id.ID{}).Less(a) || a.Less(id.ID{}) {
			t.Errorf("None isn't below %v", a)
		}
		for _, b := range l {
			if below, above := a.Less(b), b.Less(a); a == b && (below || above) || a != b && below == above {
				t.Errorf("%v and %v: below %v, above %v", a, b, below, above)
			}
			for _, c := range l {
				if a.Less(b) && b.Less(c) && !a.Less(c) {
					t.Errorf("%v is below %v, that below %v, but it not below that", a, b, c)
				}
			}
		}
	}
}
