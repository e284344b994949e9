package pmap_test

import (
	"iter"
	"maps"
	"math"
	"math/rand"
	"slices"
	"sync"
	"testing"

	"selvedge/api"
	"selvedge/id"
	"selvedge/pmap"
)

func mk(counter int64, site int) id.ID { return id.ID{Counter: counter, Site: site} }

// entry is the k-th of some entries, all unlike.
func entry(k int) pmap.Entry {
	return pmap.Entry{Anchor: mk(int64(k/7+1), k%7+1), Char: rune(k), Dead: k%3 == 1}
}

// edgeIDs: ids that may be, at all edges of both numbers, and at those of their bits, rising.
func edgeIDs() []id.ID {
	counters := []int64{1, 2, 3, 8, 9, 16, 17, 64, 65, 1023, 1024, 1025, 524288, 524289, api.MaxCounter - 1, api.MaxCounter}
	sites := []int{1, 2, 8, 9, 64, 65, 511, 512, 513, 999, api.MaxSite}
	var l []id.ID
	for _, c := range counters {
		for _, s := range sites {
			l = append(l, mk(c, s))
		}
	}
	return l
}

// wrongIDs: ids that may not be. Some of them have the low bits of one that may be.
func wrongIDs() []id.ID {
	counters := []int64{
		math.MinInt64, math.MinInt64 + 1, -1 << 32, 1 - 1<<32, -api.MaxCounter, -2, -1, 0, 1, 2, 1024, api.MaxCounter,
		api.MaxCounter + 1, api.MaxCounter + 2, 2 * api.MaxCounter, 1<<30 + 1, 1<<32 + 1, 1<<54 + 1, math.MaxInt64 - 1, math.MaxInt64,
	}
	sites := []int{
		math.MinInt, -api.MaxSite, -1024, -1, 0, 1, 2, api.MaxSite,
		api.MaxSite + 1, 1023, 1024, 1025, 2049, 1<<30 + 1, math.MaxInt,
	}
	var l []id.ID
	for _, c := range counters {
		for _, s := range sites {
			if c < 1 || c > api.MaxCounter || s < 1 || s > api.MaxSite {
				l = append(l, mk(c, s))
			}
		}
	}
	return l
}

func put(t *testing.T, m pmap.Map, a id.ID, e pmap.Entry) pmap.Map {
	t.Helper()
	n, ok := m.Put(a, e)
	if !ok {
		t.Fatalf("Put(%v): false", a)
	}
	return n
}

// filled is the map of some entries, put in a given order of their ids.
func filled(t *testing.T, of map[id.ID]pmap.Entry, order []id.ID) pmap.Map {
	t.Helper()
	var m pmap.Map
	for _, a := range order {
		m = put(t, m, a, of[a])
	}
	return m
}

// entries are some entries of ids, all unlike.
func entries(l []id.ID) map[id.ID]pmap.Entry {
	of := map[id.ID]pmap.Entry{}
	for k, a := range l {
		of[a] = entry(k)
	}
	return of
}

// byLess is the order of ids, as layer 1 has it.
func byLess(a, b id.ID) int {
	switch {
	case a.Less(b):
		return -1
	case b.Less(a):
		return 1
	}
	return 0
}

// rising are the ids of some entries, by Less.
func rising(of map[id.ID]pmap.Entry) []id.ID {
	return slices.SortedFunc(maps.Keys(of), byLess)
}

// orders: ways in which ids, which are handed in rising, may come.
func orders(l []id.ID) map[string][]id.ID {
	falling := slices.Clone(l)
	slices.Reverse(falling)
	shuffled := slices.Clone(l)
	rand.New(rand.NewSource(int64(len(l)))).Shuffle(len(l), func(i, k int) { shuffled[i], shuffled[k] = shuffled[k], shuffled[i] })
	var ends []id.ID
	for i := range l {
		k := i / 2
		if i%2 == 1 {
			k = len(l) - 1 - i/2
		}
		ends = append(ends, l[k])
	}
	return map[string][]id.ID{"rising": l, "falling": falling, "in any order": shuffled, "from both ends": ends}
}

// sameMap holds what a map answers against the entries that it must have.
func sameMap(t *testing.T, m pmap.Map, of map[id.ID]pmap.Entry) {
	t.Helper()
	if m.Len() != len(of) {
		t.Fatalf("Len %d, not %d", m.Len(), len(of))
	}
	l := rising(of)
	var last id.ID
	if len(l) > 0 {
		last = l[len(l)-1]
	}
	if got := m.Last(); got != last {
		t.Fatalf("Last of %d: %v, not %v", len(of), got, last)
	}
	for a, e := range of {
		if got, ok := m.Get(a); got != e || !ok {
			t.Fatalf("Get(%v) of %d: %+v, %v, not %+v", a, len(of), got, ok, e)
		}
	}
	sameAll(t, m, l, of)
}

// sameAll goes over a map.
func sameAll(t *testing.T, m pmap.Map, l []id.ID, of map[id.ID]pmap.Entry) {
	t.Helper()
	n := 0
	for a, e := range m.All() {
		if n >= len(l) || a != l[n] || e != of[a] {
			t.Fatalf("All of %d, the %d-th: %v, %+v", len(l), n, a, e)
		}
		n++
	}
	if n != len(l) {
		t.Fatalf("All of %d: %d", len(l), n)
	}
}

// hasNone asks for ids that have no entry.
func hasNone(t *testing.T, m pmap.Map, l []id.ID) {
	t.Helper()
	for _, a := range l {
		if e, ok := m.Get(a); e != (pmap.Entry{}) || ok {
			t.Fatalf("Get(%+v): %+v, %v", a, e, ok)
		}
	}
}

func TestP41WithoutEntries(t *testing.T) {
	var m pmap.Map
	sameMap(t, m, nil)
	hasNone(t, m, edgeIDs())
	hasNone(t, m, wrongIDs())
	for _, a := range wrongIDs() {
		if n, ok := m.Put(a, entry(1)); n != m || ok {
			t.Errorf("Put(%+v): %d, %v", a, n.Len(), ok)
		}
	}
	sameMap(t, m, nil)
}

// Each id that may be can be put; those beside it have no entry then.
func TestP41OneEntry(t *testing.T) {
	for k, a := range edgeIDs() {
		e := entry(k)
		m := put(t, pmap.Map{}, a, e)
		sameMap(t, m, map[id.ID]pmap.Entry{a: e})
		for _, b := range edgeIDs() {
			if b != a {
				hasNone(t, m, []id.ID{b})
			}
		}
		for _, c := range []int64{-1, 0, 1} {
			for _, s := range []int{-1, 0, 1} {
				if c != 0 || s != 0 {
					hasNone(t, m, []id.ID{mk(a.Counter+c, a.Site+s)})
				}
			}
		}
		hasNone(t, m, []id.ID{mk(-a.Counter, a.Site), mk(a.Counter, -a.Site)})
		if a.Counter != int64(a.Site) {
			hasNone(t, m, []id.ID{mk(int64(a.Site), int(a.Counter))})
		}
		hasNone(t, m, wrongIDs())
	}
}

// What has no entry is told from what has one that is zero.
func TestP41ZeroEntry(t *testing.T) {
	a, b := mk(3, 2), mk(3, 1)
	m := put(t, pmap.Map{}, a, pmap.Entry{})
	sameMap(t, m, map[id.ID]pmap.Entry{a: {}})
	hasNone(t, m, []id.ID{b})
	m = put(t, m, b, entry(5))
	m = put(t, m, b, pmap.Entry{})
	sameMap(t, m, map[id.ID]pmap.Entry{a: {}, b: {}})
}

// An entry is kept whole, whatever it is.
func TestP41EntriesAreAny(t *testing.T) {
	l := []pmap.Entry{
		{},
		{Char: 'a'},
		{Dead: true},
		{Anchor: mk(1, 1)},
		{Anchor: mk(1048576, 1000), Char: 0x10FFFF, Dead: true},
		{Anchor: mk(math.MinInt64, math.MaxInt), Char: math.MinInt32},
		{Anchor: mk(math.MaxInt64, math.MinInt), Char: math.MaxInt32, Dead: true},
		{Anchor: mk(7, 7), Char: -1},
	}
	var m pmap.Map
	of := map[id.ID]pmap.Entry{}
	for k, e := range l {
		a := mk(7, k+1)
		m = put(t, m, a, e)
		of[a] = e
		sameMap(t, m, of)
	}
}

func TestP41PutAgain(t *testing.T) {
	l := edgeIDs()
	of := entries(l)
	m := filled(t, of, l)
	for k, a := range l {
		for _, e := range []pmap.Entry{entry(k + 1000), of[a], {}, {Dead: true}} {
			want := maps.Clone(of)
			want[a] = e
			n := put(t, m, a, e)
			sameMap(t, n, want)
			sameMap(t, put(t, n, a, of[a]), of)
		}
	}
	sameMap(t, m, of)
}

func TestP41WrongIDs(t *testing.T) {
	for _, l := range [][]id.ID{{mk(1, 1)}, {mk(api.MaxCounter, api.MaxSite)}, edgeIDs()} {
		of := entries(l)
		m := filled(t, of, l)
		hasNone(t, m, wrongIDs())
		for _, a := range wrongIDs() {
			n, ok := m.Put(a, entry(9999))
			if n != m || ok {
				t.Errorf("Put(%+v): %v", a, ok)
			}
		}
		n, _ := m.Put(id.ID{}, entry(9999))
		sameMap(t, n, of)
		sameMap(t, m, of)
	}
}

func TestP41FilledInWhateverOrder(t *testing.T) {
	var dense, sites, steps []id.ID
	for i := range 4096 {
		dense = append(dense, mk(int64(i+1), i%5+1))
		steps = append(steps, mk(int64(i*256+1), 1000-i%1000))
	}
	for c := range int64(3) {
		for s := range api.MaxSite {
			sites = append(sites, mk(c+1, s+1))
		}
	}
	for _, l := range [][]id.ID{nil, {mk(2, 1)}, edgeIDs(), dense, sites, steps} {
		of := entries(l)
		for _, order := range orders(l) {
			sameMap(t, filled(t, of, order), of)
		}
	}
}

// perms hands on each order of ids.
func perms(ahead, rest []id.ID, visit func([]id.ID)) {
	if len(rest) == 0 {
		visit(ahead)
	}
	for i, a := range rest {
		perms(append(slices.Clone(ahead), a), slices.Delete(slices.Clone(rest), i, i+1), visit)
	}
}

func TestP41AllOrdersOfFewPuts(t *testing.T) {
	l := []id.ID{mk(1, 1), mk(1, 2), mk(1, 1000), mk(2, 1), mk(1024, 1), mk(1048576, 1), mk(1048576, 1000)}
	of := entries(l)
	n := 0
	perms(nil, l, func(order []id.ID) {
		n++
		sameMap(t, filled(t, of, order), of)
	})
	if n != 5040 {
		t.Errorf("%d orders", n)
	}
}

// anyID is an id that may be, of few or of many; small has it repeat.
func anyID(r *rand.Rand, small bool) id.ID {
	if small {
		return mk(int64(r.Intn(20)+1), r.Intn(5)+1)
	}
	return mk(int64(r.Intn(api.MaxCounter)+1), r.Intn(api.MaxSite)+1)
}

func TestP41ManyPuts(t *testing.T) {
	for seed := range int64(20) {
		r := rand.New(rand.NewSource(seed))
		wrong := wrongIDs()
		var m pmap.Map
		of := map[id.ID]pmap.Entry{}
		for k := range 600 {
			if r.Intn(4) == 0 {
				m, _ = m.Put(wrong[r.Intn(len(wrong))], entry(k))
			} else {
				a := anyID(r, r.Intn(2) == 0)
				m = put(t, m, a, entry(k))
				of[a] = entry(k)
			}
			if m.Len() != len(of) {
				t.Fatalf("Len %d, not %d", m.Len(), len(of))
			}
			if k%50 == 0 || k == 599 {
				sameMap(t, m, of)
			}
		}
		for range 2000 {
			a := anyID(r, r.Intn(2) == 0)
			if _, ok := of[a]; !ok {
				hasNone(t, m, []id.ID{a})
			}
		}
	}
}

func TestP42Example(t *testing.T) {
	m := put(t, pmap.Map{}, mk(2, 1), entry(0))
	m = put(t, m, mk(1, 3), entry(1))
	for a, e := range m.All() {
		if a != mk(1, 3) || e != entry(1) {
			t.Errorf("first %v, %+v", a, e)
		}
		break
	}
	if m.Last() != mk(2, 1) {
		t.Errorf("last %v", m.Last())
	}
}

func TestP42Last(t *testing.T) {
	if got := (pmap.Map{}).Last(); !got.None() {
		t.Errorf("of none: %v", got)
	}
	for _, c := range []struct{ put, want id.ID }{
		{mk(5, 500), mk(5, 500)},
		{mk(4, 1000), mk(5, 500)},
		{mk(5, 499), mk(5, 500)},
		{mk(1, 1), mk(5, 500)},
		{mk(5, 500), mk(5, 500)},
		{mk(5, 501), mk(5, 501)},
		{mk(6, 1), mk(6, 1)},
		{mk(1048575, 1000), mk(1048575, 1000)},
		{mk(1048576, 1), mk(1048576, 1)},
		{mk(1048576, 1000), mk(1048576, 1000)},
		{mk(1048576, 999), mk(1048576, 1000)},
	} {
		var m pmap.Map
		for _, a := range []id.ID{c.want, c.put} {
			m = put(t, m, a, entry(1))
		}
		if got := m.Last(); got != c.want {
			t.Errorf("of %v and %v: %v", c.want, c.put, got)
		}
	}
}

// Of each two ids the greater one is Last, and the lesser one is gone over first,
// whichever came first, and whether it is dead or not.
func TestP42OfEachTwo(t *testing.T) {
	l := edgeIDs()
	for i, b := range l {
		for k, a := range l[:i] {
			for _, order := range [][]id.ID{{a, b}, {b, a}} {
				of := map[id.ID]pmap.Entry{a: entry(k), b: entry(i)}
				sameMap(t, filled(t, of, order), of)
			}
		}
	}
}

// Last rises with greater ids alone.
func TestP42LastOfMany(t *testing.T) {
	for word, order := range orders(edgeIDs()) {
		var m pmap.Map
		var last id.ID
		for k, a := range order {
			m = put(t, m, a, entry(k))
			if last.Less(a) {
				last = a
			}
			if got := m.Last(); got != last {
				t.Errorf("%s: %v, not %v", word, got, last)
			}
		}
	}
}

func TestP42All(t *testing.T) {
	for range (pmap.Map{}).All() {
		t.Error("an entry of none")
	}
	l := edgeIDs()
	of := entries(l)
	for word, order := range orders(l) {
		all := filled(t, of, order).All()
		for range 2 { // it can be gone over again
			var got []id.ID
			for a, e := range all {
				if e != of[a] {
					t.Errorf("%s: %v, %+v", word, a, e)
				}
				got = append(got, a)
			}
			if !slices.Equal(got, l) {
				t.Errorf("%s: %v", word, got)
			}
		}
	}
}

// Going over a map may end behind any entry; nothing is handed on behind that.
func TestP42AllEndsEarly(t *testing.T) {
	l := edgeIDs()
	of := entries(l)
	for word, order := range orders(l) {
		m := filled(t, of, order)
		for last := range l {
			calls := 0
			m.All()(func(a id.ID, e pmap.Entry) bool {
				if calls > last || a != l[calls] || e != of[a] {
					t.Fatalf("%s: the %d-th, of an end at %d: %v, %+v", word, calls, last, a, e)
				}
				calls++
				return calls <= last
			})
			if calls != last+1 {
				t.Errorf("%s: ended at %d, but there were %d calls", word, last, calls)
			}
			ahead := 0
			for a := range m.All() {
				if a == l[last] {
					break
				}
				ahead++
			}
			if ahead != last {
				t.Errorf("%s: %d ahead of a break at %d", word, ahead, last)
			}
		}
		sameMap(t, m, of)
	}
}

// Two may go over one map at once, each by itself.
func TestP42AllWithinAll(t *testing.T) {
	l := []id.ID{mk(1, 1), mk(1, 1000), mk(2, 1), mk(1048576, 1000)}
	all := filled(t, entries(l), l).All()
	pairs := 0
	for a := range all {
		for b := range all {
			if a != l[pairs/len(l)] || b != l[pairs%len(l)] {
				t.Fatalf("the %d-th: %v, %v", pairs, a, b)
			}
			pairs++
		}
	}
	if pairs != len(l)*len(l) {
		t.Errorf("%d", pairs)
	}
	next, stop := iter.Pull2(all)
	defer stop()
	for k, a := range l {
		if b, e, ok := next(); b != a || e != entry(k) || !ok {
			t.Errorf("%v, %+v, %v", b, e, ok)
		}
	}
	if _, _, ok := next(); ok {
		t.Error("one more than there are")
	}
}

// kept is a map, and what it was when it was made.
type kept struct {
	m   pmap.Map
	was map[id.ID]pmap.Entry
}

// with is what comes of a map by one entry more, or by another one in its place.
func (k kept) with(t *testing.T, a id.ID, e pmap.Entry) kept {
	t.Helper()
	was := maps.Clone(k.was)
	if was == nil {
		was = map[id.ID]pmap.Entry{}
	}
	was[a] = e
	return kept{put(t, k.m, a, e), was}
}

// Maps are made of maps, of any that there are; all stay as they were.
func TestP43AllMapsStay(t *testing.T) {
	for seed := range int64(6) {
		r := rand.New(rand.NewSource(seed))
		made := []kept{{}}
		for k := range 400 {
			of := made[r.Intn(len(made))]
			if r.Intn(2) == 0 {
				of = made[len(made)-1]
			}
			made = append(made, of.with(t, anyID(r, seed%2 == 0), entry(k)))
		}
		for _, k := range made {
			sameMap(t, k.m, k.was)
			for range 20 {
				a := anyID(r, true)
				if _, ok := k.was[a]; !ok {
					hasNone(t, k.m, []id.ID{a})
				}
			}
		}
	}
}

// Of one map many are made: none of them sees the others.
func TestP43ManyOfOne(t *testing.T) {
	var l, more []id.ID
	for k, a := range edgeIDs() {
		if k%2 == 0 {
			l = append(l, a)
		} else {
			more = append(more, a)
		}
	}
	of := kept{filled(t, entries(l), l), entries(l)}
	var made []kept
	for k, a := range edgeIDs() {
		made = append(made, of.with(t, a, entry(k+5000)))
	}
	for _, k := range made {
		sameMap(t, k.m, k.was)
		for _, a := range more {
			if _, ok := k.was[a]; !ok {
				hasNone(t, k.m, []id.ID{a})
			}
		}
	}
	sameMap(t, of.m, of.was)
	hasNone(t, of.m, more)
}

// The map without entries stays so.
func TestP43ZeroStays(t *testing.T) {
	var m pmap.Map
	for k, a := range edgeIDs() {
		put(t, m, a, entry(k))
		sameMap(t, m, nil)
		sameMap(t, pmap.Map{}, nil)
	}
	hasNone(t, m, edgeIDs())
}

// An entry that is put again leaves the elder one in the elder map.
func TestP43ElderEntryStays(t *testing.T) {
	a := mk(3, 2)
	made := []kept{kept{}.with(t, a, entry(0))}
	for k := range 50 {
		made = append(made, made[k].with(t, a, entry(k+1)))
	}
	for k, m := range made {
		if e, ok := m.m.Get(a); e != entry(k) || !ok || m.m.Len() != 1 {
			t.Errorf("the %d-th: %+v, %v, Len %d", k, e, ok, m.m.Len())
		}
	}
}

// What goes over a map goes over that one, whatever is made of it meanwhile.
func TestP43AllStays(t *testing.T) {
	l := edgeIDs()
	of := entries(l)
	m := filled(t, of, l)
	n := m
	k := 0
	for a, e := range m.All() {
		if a != l[k] || e != of[a] {
			t.Fatalf("the %d-th: %v, %+v", k, a, e)
		}
		n = put(t, n, l[len(l)-1-k], pmap.Entry{})
		n = put(t, n, mk(int64(k)+2000, 7), entry(k))
		k++
	}
	if k != len(l) || n.Len() != 2*len(l) {
		t.Errorf("%d, and %d", k, n.Len())
	}
	sameMap(t, m, of)
}

// Many threads make maps of one map, and look at it.
func TestP43ManyThreadsOfOneMap(t *testing.T) {
	l := edgeIDs()
	of := entries(l)
	m := filled(t, of, l)
	var wait sync.WaitGroup
	for seed := range int64(8) {
		wait.Go(func() {
			r := rand.New(rand.NewSource(seed))
			n := m
			for k := range 300 {
				n, _ = n.Put(anyID(r, true), entry(k))
				n, _ = n.Put(l[r.Intn(len(l))], entry(k))
			}
			a := l[r.Intn(len(l))]
			if e, ok := m.Get(a); n.Len() < len(l) || m.Len() != len(l) || e != of[a] || !ok {
				t.Errorf("%d, %d, %+v", n.Len(), m.Len(), e)
			}
		})
	}
	wait.Wait()
	sameMap(t, m, of)
}
