package tally_test

import (
	"math"
	"math/big"
	"math/rand"
	"slices"
	"strconv"
	"testing"

	"selvedge/api"
	"selvedge/id"
	"selvedge/tally"
)

func mk(counter int64, site int) id.ID { return id.ID{Counter: counter, Site: site} }

var greatest = mk(api.MaxCounter, api.MaxSite)

// wrongIDs: ids that may not be, at all edges of both numbers.
func wrongIDs() []id.ID {
	return []id.ID{
		{}, mk(0, 1), mk(1, 0), mk(-1, 1), mk(1, -1), mk(-3, -2),
		mk(api.MaxCounter+1, 1), mk(1, api.MaxSite+1), mk(api.MaxCounter+1, api.MaxSite+1),
		mk(math.MinInt64, 1), mk(math.MaxInt64, 1), mk(1, math.MinInt), mk(1, math.MaxInt),
		mk(math.MinInt64, math.MinInt), mk(math.MaxInt64, math.MaxInt), mk(1<<32+1, 1),
	}
}

// put puts ids into a tally, one after the other.
func put(t *testing.T, x tally.Tally, l ...id.ID) tally.Tally {
	t.Helper()
	for _, a := range l {
		var e api.Errno
		if x, e = x.Put(a); e != api.OK {
			t.Fatalf("Put(%v): %v", a, e)
		}
	}
	return x
}

// take takes ids out of a tally, one after the other.
func take(t *testing.T, x tally.Tally, l ...id.ID) tally.Tally {
	t.Helper()
	for _, a := range l {
		var e api.Errno
		if x, e = x.Take(a); e != api.OK {
			t.Fatalf("Take(%v): %v", a, e)
		}
	}
	return x
}

// and puts two tallies together.
func and(t *testing.T, x, y tally.Tally) tally.Tally {
	t.Helper()
	z, e := x.And(y)
	if e != api.OK {
		t.Fatalf("(%v).And(%v): %v", x, y, e)
	}
	return z
}

// full is a tally of 4096 ids.
func full(t *testing.T) tally.Tally {
	t.Helper()
	return put(t, tally.Tally{}, someIDs(api.MaxElems)...)
}

// someIDs: n ids that may be, near and far from the edges, the same each time.
func someIDs(n int) []id.ID {
	r := rand.New(rand.NewSource(2))
	l := make([]id.ID, n)
	for i := range l {
		switch i % 3 {
		case 0:
			l[i] = mk(1+r.Int63n(api.MaxCounter), 1+r.Intn(api.MaxSite))
		case 1:
			l[i] = mk(1+r.Int63n(9), 1+r.Intn(api.MaxSite))
		default:
			l[i] = mk(api.MaxCounter-r.Int63n(9), api.MaxSite-r.Intn(9))
		}
	}
	return l
}

// wantText tells the text of a tally of ids, less others, by other means.
func wantText(in, out []id.ID) string {
	var sum [4]big.Int
	tell := func(l []id.ID, sign int64) {
		for _, a := range l {
			c, s := big.NewInt(a.Counter), big.NewInt(int64(a.Site))
			square := new(big.Int).Sub(new(big.Int).Mul(c, c), new(big.Int).Mul(s, s))
			cross := new(big.Int).Mul(big.NewInt(2), new(big.Int).Mul(c, s))
			for i, n := range []*big.Int{c, s, square, cross} {
				sum[i].Add(&sum[i], n.Mul(n, big.NewInt(sign)))
			}
		}
	}
	tell(in, 1)
	tell(out, -1)
	text := strconv.Itoa(len(in) - len(out))
	for i := range sum {
		text += " " + sum[i].String()
	}
	return text
}

func TestP21Of(t *testing.T) {
	for _, c := range []struct {
		a    id.ID
		want complex128
	}{
		{mk(3, 2), complex(3, 2)},
		{mk(1, 1), complex(1, 1)},
		{mk(1, 1000), complex(1, 1000)},
		{mk(1048576, 1), complex(1048576, 1)},
		{mk(1048576, 1000), complex(1048576, 1000)},
		{mk(0, 0), 0},
		{mk(0, 7), complex(0, 7)},
		{mk(7, 0), complex(7, 0)},
		{mk(-3, 2), complex(-3, 2)},
		{mk(3, -2), complex(3, -2)},
		{mk(1048577, 1001), complex(1048577, 1001)},
		{mk(1<<53, -1), complex(1<<53, -1)},
		{mk(-1<<53, -1), complex(-1<<53, -1)},
		{mk(math.MinInt64, math.MinInt), complex(-1<<63, float64(math.MinInt))},
		{mk(math.MaxInt64, math.MaxInt), complex(1<<63, float64(math.MaxInt))},
	} {
		if got := tally.Of(c.a); got != c.want {
			t.Errorf("Of(%+v): %v, not %v", c.a, got, c.want)
		}
	}
}

func TestP21Put(t *testing.T) {
	for _, c := range []struct {
		l    []id.ID
		want tally.Tally
	}{
		{nil, tally.Tally{}},
		{[]id.ID{mk(3, 2)}, tally.Tally{N: 1, Sum: complex(3, 2), Mix: complex(5, 12)}},
		{[]id.ID{mk(1, 5)}, tally.Tally{N: 1, Sum: complex(1, 5), Mix: complex(-24, 10)}},
		{[]id.ID{mk(3, 2), mk(1, 5)}, tally.Tally{N: 2, Sum: complex(4, 7), Mix: complex(-19, 22)}},
		{[]id.ID{mk(1, 1)}, tally.Tally{N: 1, Sum: complex(1, 1), Mix: complex(0, 2)}},
		{[]id.ID{mk(1, 1), mk(1, 1)}, tally.Tally{N: 2, Sum: complex(2, 2), Mix: complex(0, 4)}},
		{[]id.ID{mk(1, 1000)}, tally.Tally{N: 1, Sum: complex(1, 1000), Mix: complex(-999999, 2000)}},
		{[]id.ID{greatest}, tally.Tally{N: 1, Sum: complex(1048576, 1000), Mix: complex(1099510627776, 2097152000)}},
	} {
		if got := put(t, tally.Tally{}, c.l...); got != c.want {
			t.Errorf("of %v: %v, not %v", c.l, got, c.want)
		}
	}
}

func TestP21PutUpToFull(t *testing.T) {
	l := someIDs(api.MaxElems)
	var x tally.Tally
	for i, a := range l {
		x = put(t, x, a)
		if x.N != i+1 {
			t.Fatalf("N of %d ids: %d", i+1, x.N)
		}
	}
	kept := x
	for _, a := range []id.ID{mk(1, 1), greatest, l[0]} {
		if got, e := x.Put(a); got != (tally.Tally{}) || e != api.ErrFull {
			t.Errorf("Put(%v) into a full one: %v, %v", a, got, e)
		}
	}
	if x != kept {
		t.Errorf("what was full is now %v", x)
	}
	// There is room again behind a Take, for just one.
	x = put(t, take(t, x, l[0]), mk(1, 1))
	if got, e := x.Put(mk(1, 1)); got != (tally.Tally{}) || e != api.ErrFull {
		t.Errorf("Put into one that is full again: %v, %v", got, e)
	}
}

func TestP21Take(t *testing.T) {
	a, b := mk(3, 2), mk(1, 5)
	for _, c := range []struct {
		in, out []id.ID
		want    tally.Tally
	}{
		{[]id.ID{a, b}, []id.ID{a}, tally.Tally{N: 1, Sum: complex(1, 5), Mix: complex(-24, 10)}},
		{[]id.ID{a, b}, []id.ID{b}, tally.Tally{N: 1, Sum: complex(3, 2), Mix: complex(5, 12)}},
		{[]id.ID{a, b}, []id.ID{a, b}, tally.Tally{}},
		{[]id.ID{greatest}, []id.ID{greatest}, tally.Tally{}},
		// whether it was put in isn't known
		{[]id.ID{a}, []id.ID{b}, tally.Tally{Sum: complex(2, -3), Mix: complex(29, 2)}},
		{[]id.ID{b, b}, []id.ID{a}, tally.Tally{N: 1, Sum: complex(-1, 8), Mix: complex(-53, 8)}},
		{[]id.ID{mk(1, 1)}, []id.ID{greatest}, tally.Tally{Sum: complex(-1048575, -999), Mix: complex(-1099510627776, -2097151998)}},
	} {
		if got := take(t, put(t, tally.Tally{}, c.in...), c.out...); got != c.want {
			t.Errorf("of %v less %v: %v, not %v", c.in, c.out, got, c.want)
		}
	}
}

func TestP21TakeOfNone(t *testing.T) {
	bare := put(t, tally.Tally{}, mk(3, 2))
	for _, x := range []tally.Tally{
		{},
		take(t, bare, mk(3, 2)),
		take(t, bare, mk(1, 5)),
	} {
		kept := x
		for _, a := range []id.ID{mk(3, 2), mk(1, 5), mk(1, 1), greatest} {
			if got, e := x.Take(a); got != (tally.Tally{}) || e != api.ErrNone {
				t.Errorf("(%v).Take(%v): %v, %v", x, a, got, e)
			}
		}
		if x != kept {
			t.Errorf("Take left %v, of %v", x, kept)
		}
	}
}

// An id that may not be is refused ahead of a tally that is full, or without ids.
func TestP21WrongIDs(t *testing.T) {
	for _, x := range []tally.Tally{{}, put(t, tally.Tally{}, mk(3, 2), mk(1, 5)), full(t)} {
		for _, a := range wrongIDs() {
			if got, e := x.Put(a); got != (tally.Tally{}) || e != api.ErrRange {
				t.Errorf("Put(%+v) into one of %d: %v, %v", a, x.N, got, e)
			}
			if got, e := x.Take(a); got != (tally.Tally{}) || e != api.ErrRange {
				t.Errorf("Take(%+v) from one of %d: %v, %v", a, x.N, got, e)
			}
		}
	}
}

func TestP21And(t *testing.T) {
	x := put(t, tally.Tally{}, mk(3, 2))
	y := put(t, tally.Tally{}, mk(1, 5), mk(1, 1))
	below := take(t, x, mk(4, 4))
	for _, c := range []struct{ x, y, want tally.Tally }{
		{tally.Tally{}, tally.Tally{}, tally.Tally{}},
		{x, tally.Tally{}, x},
		{tally.Tally{}, x, x},
		{x, x, tally.Tally{N: 2, Sum: complex(6, 4), Mix: complex(10, 24)}},
		{x, y, tally.Tally{N: 3, Sum: complex(5, 8), Mix: complex(-19, 24)}},
		{y, x, tally.Tally{N: 3, Sum: complex(5, 8), Mix: complex(-19, 24)}},
		{x, below, tally.Tally{N: 1, Sum: complex(2, 0), Mix: complex(10, -8)}},
		{below, below, tally.Tally{Sum: complex(-2, -4), Mix: complex(10, -40)}},
	} {
		if got, e := c.x.And(c.y); got != c.want || e != api.OK {
			t.Errorf("(%v).And(%v): %v, %v, not %v", c.x, c.y, got, e, c.want)
		}
	}
}

func TestP21AndUpToFull(t *testing.T) {
	l := someIDs(api.MaxElems)
	whole := full(t)
	for _, n := range []int{0, 1, 2, api.MaxElems / 2, api.MaxElems - 1, api.MaxElems} {
		x, y := put(t, tally.Tally{}, l[:n]...), put(t, tally.Tally{}, l[n:]...)
		if got := and(t, x, y); got != whole {
			t.Errorf("%d and %d: %v, not %v", x.N, y.N, got, whole)
		}
	}
	for _, c := range []struct{ n, m int }{
		{1, api.MaxElems},
		{2, api.MaxElems - 1},
		{api.MaxElems / 2, api.MaxElems/2 + 1},
		{api.MaxElems, api.MaxElems},
	} {
		x, y := put(t, tally.Tally{}, l[:c.n]...), put(t, tally.Tally{}, l[:c.m]...)
		if got, e := x.And(y); got != (tally.Tally{}) || e != api.ErrFull {
			t.Errorf("%d and %d: %v, %v", x.N, y.N, got, e)
		}
		if got, e := y.And(x); got != (tally.Tally{}) || e != api.ErrFull {
			t.Errorf("%d and %d: %v, %v", y.N, x.N, got, e)
		}
	}
}

// Ids of which those put in, less those taken, come to 2 in one part alone.
func mixReal() (in, out []id.ID) { return []id.ID{mk(3, 1), mk(1, 1)}, []id.ID{mk(2, 1), mk(2, 1)} }
func mixImag() (in, out []id.ID) { return []id.ID{mk(2, 2), mk(1, 1)}, []id.ID{mk(2, 1), mk(1, 2)} }

// without takes off a Mix, part by part, that is even.
func without(t *testing.T, x tally.Tally, re, im int) tally.Tally {
	t.Helper()
	off := func(n int, in, out []id.ID) {
		if n < 0 {
			n, in, out = -n, out, in
		}
		for range n / 2 {
			x = take(t, put(t, x, out...), in...)
		}
	}
	in, out := mixReal()
	off(re, in, out)
	in, out = mixImag()
	off(im, in, out)
	return x
}

// apart: tallies that differ from base in one of the five numbers alone.
func apart(t *testing.T, base tally.Tally) map[string]tally.Tally {
	t.Helper()
	// (2 + i)^2 - (1 + i)^2 is 3 + 2i, (1 + 2i)^2 - (1 + i)^2 is -3 + 2i; each of them twice.
	sumReal := without(t, take(t, put(t, base, mk(2, 1), mk(2, 1)), mk(1, 1), mk(1, 1)), 6, 4)
	sumImag := without(t, take(t, put(t, base, mk(1, 2), mk(1, 2)), mk(1, 1), mk(1, 1)), -6, 4)
	// 1 + 1 + 4 is 3 + 3, and so it is squared, and by 1 + i.
	n := take(t, put(t, base, mk(1, 1), mk(1, 1), mk(4, 4)), mk(3, 3), mk(3, 3))
	return map[string]tally.Tally{
		"N":        n,
		"Sum real": sumReal,
		"Sum imag": sumImag,
		"Mix real": without(t, base, -2, 0),
		"Mix imag": without(t, base, 0, -2),
	}
}

func TestP22Same(t *testing.T) {
	base := put(t, tally.Tally{}, mk(3, 2), mk(1, 5))
	want := map[string]tally.Tally{
		"N":        {N: 3, Sum: complex(4, 7), Mix: complex(-19, 22)},
		"Sum real": {N: 2, Sum: complex(6, 7), Mix: complex(-19, 22)},
		"Sum imag": {N: 2, Sum: complex(4, 9), Mix: complex(-19, 22)},
		"Mix real": {N: 2, Sum: complex(4, 7), Mix: complex(-17, 22)},
		"Mix imag": {N: 2, Sum: complex(4, 7), Mix: complex(-19, 24)},
	}
	for word, x := range apart(t, base) {
		if x != want[word] {
			t.Fatalf("%s: %v, not %v", word, x, want[word])
		}
		if x.Same(base) || base.Same(x) {
			t.Errorf("%v and %v, unlike in %s, are the same", base, x, word)
		}
		if !x.Same(want[word]) || !want[word].Same(x) || !x.Same(x) {
			t.Errorf("%v isn't the same as itself", x)
		}
	}
	if z := (tally.Tally{}); !z.Same(z) || z.Same(base) || base.Same(z) || !base.Same(base) {
		t.Error("the zero one, and another one")
	}
	if x := full(t); !x.Same(full(t)) || x.Same(base) {
		t.Error("the full one, and another one")
	}
}

func TestP22String(t *testing.T) {
	for _, c := range []struct {
		in, out []id.ID
		want    string
	}{
		{nil, nil, "0 0 0 0 0"},
		{[]id.ID{mk(3, 2)}, nil, "1 3 2 5 12"},
		{[]id.ID{mk(3, 2), mk(1, 5)}, nil, "2 4 7 -19 22"},
		{[]id.ID{mk(3, 2), mk(1, 5)}, []id.ID{mk(3, 2)}, "1 1 5 -24 10"},
		{[]id.ID{mk(3, 2)}, []id.ID{mk(3, 2)}, "0 0 0 0 0"},
		{[]id.ID{mk(1, 1)}, nil, "1 1 1 0 2"},
		{[]id.ID{mk(1, 1)}, []id.ID{mk(2, 3)}, "0 -1 -2 5 -10"},
		{[]id.ID{mk(10, 10)}, []id.ID{mk(10, 20)}, "0 0 -10 300 -200"},
		{[]id.ID{greatest}, nil, "1 1048576 1000 1099510627776 2097152000"},
		{[]id.ID{mk(1, 1000)}, nil, "1 1 1000 -999999 2000"},
		{[]id.ID{mk(1000000, 100)}, nil, "1 1000000 100 999999990000 200000000"},
		{[]id.ID{mk(1, 1)}, []id.ID{greatest}, "0 -1048575 -999 -1099510627776 -2097151998"},
		{slices.Repeat([]id.ID{greatest}, 4096), nil, "4096 4294967296 4096000 4503595531370496 8589934592000"},
	} {
		if got := take(t, put(t, tally.Tally{}, c.in...), c.out...).String(); got != c.want {
			t.Errorf("of %v less %v: %q, not %q", c.in, c.out, got, c.want)
		}
	}
}

// Whatever sums floats hold, they are written digit by digit.
func TestP22StringOfGreatSums(t *testing.T) {
	x := take(t, put(t, tally.Tally{}, mk(3, 2)), mk(4, 1))
	for k := range 500 {
		power := new(big.Int).Lsh(big.NewInt(1), uint(k))
		want := "0"
		for _, n := range []int64{-1, 1, -10, 4} {
			want += " " + new(big.Int).Mul(power, big.NewInt(n)).String()
		}
		if got := x.String(); got != want {
			t.Fatalf("put to itself %d times: %q, not %q", k, got, want)
		}
		x = and(t, x, x)
	}
}

// A zero with a sign isn't below 0.
func TestP22StringOfZeros(t *testing.T) {
	zero := math.Copysign(0, -1)
	x := tally.Tally{Sum: complex(zero, zero), Mix: complex(zero, zero)}
	if got := x.String(); got != "0 0 0 0 0" {
		t.Errorf("%q", got)
	}
}

func TestP22StringOfMany(t *testing.T) {
	l := someIDs(api.MaxElems)
	var x tally.Tally
	for i, a := range l {
		x = put(t, x, a)
		if i%97 != 0 && i != len(l)-1 {
			continue
		}
		if got, want := x.String(), wantText(l[:i+1], nil); got != want {
			t.Fatalf("of %d: %q, not %q", i+1, got, want)
		}
	}
	// Those that weren't put in are taken: the sums fall below 0.
	out := slices.Repeat([]id.ID{greatest}, api.MaxElems)
	if got, want := take(t, x, out...).String(), wantText(l, out); got != want {
		t.Errorf("%q, not %q", got, want)
	}
}

// permuted hands each order of a list to visit.
func permuted(l []id.ID, from int, visit func([]id.ID)) {
	if from == len(l) {
		visit(l)
		return
	}
	for i := from; i < len(l); i++ {
		l[from], l[i] = l[i], l[from]
		permuted(l, from+1, visit)
		l[from], l[i] = l[i], l[from]
	}
}

func TestP23WhateverOrder(t *testing.T) {
	l := []id.ID{mk(3, 2), mk(1, 5), greatest, mk(1, 1000), mk(1048576, 1), mk(3, 2)}
	want := put(t, tally.Tally{}, l...)
	permuted(slices.Clone(l), 0, func(p []id.ID) {
		if got := put(t, tally.Tally{}, p...); !got.Same(want) || got.String() != wantText(l, nil) {
			t.Fatalf("of %v: %v, not %v", p, got, want)
		}
	})
	l = someIDs(api.MaxElems)
	want = put(t, tally.Tally{}, l...)
	r := rand.New(rand.NewSource(3))
	for range 20 {
		r.Shuffle(len(l), func(i, k int) { l[i], l[k] = l[k], l[i] })
		if got := put(t, tally.Tally{}, l...); !got.Same(want) || got.String() != wantText(l, nil) {
			t.Fatalf("in another order: %v, not %v", got, want)
		}
	}
}

// inParts puts ids together by tallies of parts, cut anywhere, on either side.
func inParts(t *testing.T, r *rand.Rand, l []id.ID) tally.Tally {
	t.Helper()
	if len(l) <= r.Intn(4) {
		return put(t, tally.Tally{}, l...)
	}
	cut := r.Intn(len(l) + 1)
	if cut == 0 || cut == len(l) {
		cut = len(l) / 2
	}
	if cut == 0 {
		return put(t, tally.Tally{}, l...)
	}
	x, y := inParts(t, r, l[:cut]), inParts(t, r, l[cut:])
	if r.Intn(2) == 0 {
		x, y = y, x
	}
	return and(t, x, y)
}

func TestP23WhateverParts(t *testing.T) {
	r := rand.New(rand.NewSource(4))
	for _, n := range []int{0, 1, 2, 3, 10, 1000, api.MaxElems} {
		l := someIDs(n)
		want := put(t, tally.Tally{}, l...)
		for range 20 {
			r.Shuffle(len(l), func(i, k int) { l[i], l[k] = l[k], l[i] })
			if got := inParts(t, r, l); !got.Same(want) || got.String() != wantText(l, nil) {
				t.Fatalf("%d in parts: %v, not %v", n, got, want)
			}
		}
	}
}

func TestP23WhatIsTakenAgainLeavesWhatWas(t *testing.T) {
	r := rand.New(rand.NewSource(5))
	for _, n := range []int{0, 1, 2, 100, api.MaxElems - 5} {
		was := put(t, tally.Tally{}, someIDs(n)...)
		l := []id.ID{mk(3, 2), greatest, mk(1, 1), mk(1, 1000), mk(1048576, 1)}
		for k := range l {
			if got := take(t, put(t, was, l[k]), l[k]); !got.Same(was) {
				t.Errorf("%v put and taken leaves %v, not %v", l[k], got, was)
			}
		}
		permuted(slices.Clone(l), 0, func(p []id.ID) {
			if got := take(t, put(t, was, l...), p...); !got.Same(was) {
				t.Fatalf("%v taken leaves %v, not %v", p, got, was)
			}
			if got := take(t, and(t, was, put(t, tally.Tally{}, p...)), l...); !got.Same(was) {
				t.Fatalf("%v taken leaves %v, not %v", l, got, was)
			}
		})
	}
	l := someIDs(api.MaxElems)
	x := put(t, tally.Tally{}, l...)
	r.Shuffle(len(l), func(i, k int) { l[i], l[k] = l[k], l[i] })
	for i, a := range l {
		x = take(t, x, a)
		if i%97 == 0 && x.String() != wantText(l[i+1:], nil) {
			t.Fatalf("less %d: %v, not %v", i+1, x, wantText(l[i+1:], nil))
		}
	}
	if !x.Same(tally.Tally{}) {
		t.Errorf("all taken leaves %v", x)
	}
	// What was put in need not be what is taken: the other way round it comes to the same.
	x = put(t, tally.Tally{}, mk(1, 5))
	if got := put(t, take(t, x, greatest), greatest); !got.Same(x) {
		t.Errorf("taken and put leaves %v, not %v", got, x)
	}
}

// Each sum stands below 2^53, up to the greatest, so that floats hold it.
func TestP23TheGreatestSumsAreExact(t *testing.T) {
	l := append(slices.Repeat([]id.ID{mk(api.MaxCounter, 1)}, api.MaxElems-1), mk(1, 1))
	x := put(t, tally.Tally{}, l...)
	if got, want := x.String(), wantText(l, nil); got != want {
		t.Errorf("%q, not %q", got, want)
	}
	for _, part := range []float64{real(x.Sum), imag(x.Sum), real(x.Mix), imag(x.Mix)} {
		if math.Abs(part) >= 1<<53 {
			t.Errorf("%v", part)
		}
	}
	if got := put(t, take(t, x, mk(1, 1)), mk(2, 1)); got.Same(x) {
		t.Error("2.1 in place of 1.1 isn't seen")
	}
}

// Whatever tallies and ids are handed in, each call ends, and none panics (R1).
func TestAnyTallies(t *testing.T) {
	ns := []int{math.MinInt, math.MinInt + 1, -1, 0, 1, api.MaxElems, api.MaxElems + 1, math.MaxInt - 1, math.MaxInt}
	parts := []float64{0, math.Copysign(0, -1), 0.5, -1, 1 << 53, -1 << 63, 1 << 63, math.MaxFloat64, math.SmallestNonzeroFloat64, math.Inf(1), math.Inf(-1), math.NaN()}
	var all []tally.Tally
	for _, n := range ns {
		for i, p := range parts {
			q := parts[(i+5)%len(parts)]
			all = append(all, tally.Tally{N: n, Sum: complex(p, q), Mix: complex(q, p)})
		}
	}
	for _, x := range all {
		_ = x.String()
		for _, a := range append(wrongIDs(), mk(1, 1), greatest) {
			tally.Of(a)
			x.Put(a)
			x.Take(a)
		}
		for _, y := range all {
			x.And(y)
			x.Same(y)
		}
	}
	// No N is reckoned beyond the ends of its type (R6).
	for _, n := range []int{api.MaxElems + 1, math.MaxInt} {
		x := tally.Tally{N: n}
		if _, e := x.Put(mk(1, 1)); e != api.ErrFull {
			t.Errorf("Put into one of %d: %v", n, e)
		}
		if _, e := x.And(x); e != api.ErrFull {
			t.Errorf("two of %d: %v", n, e)
		}
	}
}
