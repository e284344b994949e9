package pmap

import (
	"math/rand"
	"testing"

	"selvedge/api"
	"selvedge/id"
)

// parts are all parts that one leads to, and itself.
func parts(p *part, into map[*part]bool) map[*part]bool {
	if p != nil {
		into[p] = true
		for _, next := range p.next {
			parts(next, into)
		}
	}
	return into
}

// fresh is how many parts aren't those of an elder map.
func fresh(p *part, elder map[*part]bool) int {
	if p == nil || elder[p] {
		return 0
	}
	n := 1
	for _, next := range p.next {
		n += fresh(next, elder)
	}
	return n
}

// some are ids that may be, any of them.
func some(n int, counters int) []id.ID {
	r := rand.New(rand.NewSource(int64(n)))
	var l []id.ID
	for range n {
		l = append(l, id.ID{Counter: int64(r.Intn(counters) + 1), Site: r.Intn(api.MaxSite) + 1})
	}
	return l
}

// The bits of a place are written here as numbers, since this layer doesn't call
// api: they must hold what the limits allow, and no two ids may share a place.
func TestPlacesHoldTheLimits(t *testing.T) {
	if api.MaxSite > 1<<siteBits || api.MaxCounter > 1<<(digits*digitBits-siteBits) {
		t.Errorf("%d bits, %d of them for Sites", digits*digitBits, siteBits)
	}
	least, greatest := id.ID{Counter: 1, Site: 1}, id.ID{Counter: api.MaxCounter, Site: api.MaxSite}
	if got := place(least); got != 0 {
		t.Errorf("the least place: %d", got)
	}
	if got := place(greatest); got >= 1<<(digits*digitBits) {
		t.Errorf("the greatest place: %d", got)
	}
}

func TestPlacesAreOrderedAsIDs(t *testing.T) {
	l := append(some(300, api.MaxCounter), some(300, 3)...)
	for _, a := range l {
		if got := named(place(a)); got != a {
			t.Errorf("named of the place of %v: %v", a, got)
		}
		at := 0
		for i := range digits {
			at = at<<digitBits | digit(place(a), i)
		}
		if at != place(a) {
			t.Errorf("digits of the place of %v: %d, not %d", a, at, place(a))
		}
		for _, b := range l {
			if a.Less(b) != (place(a) < place(b)) {
				t.Errorf("places of %v and %v: %d, %d", a, b, place(a), place(b))
			}
		}
	}
}

// Maps share what they have in common: what is new is the way to one entry.
func TestMapsShareParts(t *testing.T) {
	for _, counters := range []int{1, 100, api.MaxCounter} {
		var m Map
		for _, a := range some(500, counters) {
			m, _ = m.Put(a, Entry{Char: 'a'})
		}
		elder := parts(m.root, map[*part]bool{})
		for _, a := range append(some(300, counters), some(500, counters)...) {
			n, _ := m.Put(a, Entry{Char: 'b'})
			if got := fresh(n.root, elder); got != digits+1 {
				t.Errorf("Put(%v) makes %d parts", a, got)
			}
		}
	}
}

// The same entries are kept by the same parts, in whatever order they came: the
// digits alone say where.
func TestPartsAreThoseOfWaysAlone(t *testing.T) {
	l := some(400, 1000)
	var m, n Map
	ways := map[[2]int]bool{}
	for i := range l {
		a, b := l[i], l[len(l)-1-i]
		m, _ = m.Put(a, Entry{})
		n, _ = n.Put(b, Entry{})
		for k := range digits + 1 {
			ways[[2]int{k, place(a) >> (digitBits * (digits - k))}] = true
		}
	}
	for _, x := range []Map{m, n} {
		if got := len(parts(x.root, map[*part]bool{})); got != len(ways) {
			t.Errorf("%d parts, not %d", got, len(ways))
		}
	}
}
