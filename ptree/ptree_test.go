package ptree_test

import (
	"iter"
	"math"
	"math/rand"
	"slices"
	"strings"
	"sync"
	"testing"
	"unicode/utf8"

	"selvedge/id"
	"selvedge/ptree"
)

func mk(counter int64, site int) id.ID { return id.ID{Counter: counter, Site: site} }

// elem is the k-th of some elements, all unlike, each third one dead.
func elem(k int) ptree.Elem {
	return ptree.Elem{ID: mk(int64(k+1), k%7+1), Char: rune('a' + k%26), Dead: k%3 == 1}
}

// letters is a list of elements by a text, in which a capital letter is dead.
func letters(s string) []ptree.Elem {
	var l []ptree.Elem
	for i, c := range s {
		l = append(l, ptree.Elem{ID: mk(int64(i+1), 1), Char: c, Dead: c >= 'A' && c <= 'Z'})
	}
	return l
}

func insert(t *testing.T, x ptree.Tree, i int, e ptree.Elem) ptree.Tree {
	t.Helper()
	y, ok := x.Insert(i, e)
	if !ok {
		t.Fatalf("Insert(%d) into %d: false", i, x.Len())
	}
	return y
}

func set(t *testing.T, x ptree.Tree, i int, e ptree.Elem) ptree.Tree {
	t.Helper()
	y, ok := x.Set(i, e)
	if !ok {
		t.Fatalf("Set(%d) of %d: false", i, x.Len())
	}
	return y
}

// row is the row of a list, grown at its end.
func row(t *testing.T, l []ptree.Elem) ptree.Tree {
	t.Helper()
	var x ptree.Tree
	for i, e := range l {
		x = insert(t, x, i, e)
	}
	return x
}

// grown is the row of a list, grown in a given order of its places.
func grown(t *testing.T, l []ptree.Elem, order []int) ptree.Tree {
	t.Helper()
	var x ptree.Tree
	var in []int // the places that are there, rising
	for _, k := range order {
		at, _ := slices.BinarySearch(in, k)
		in = slices.Insert(in, at, k)
		x = insert(t, x, at, l[k])
	}
	return x
}

// orders: ways in which n elements may come, by the ends, and any.
func orders(n int) map[string][]int {
	end, front, both := make([]int, n), make([]int, n), make([]int, n)
	for i := range n {
		end[i], front[i], both[i] = i, n-1-i, i/2
		if i%2 == 1 {
			both[i] = n - 1 - i/2
		}
	}
	within := slices.Clone(both)
	slices.Reverse(within)
	return map[string][]int{
		"at the end": end, "at the front": front, "from both ends": both, "from within": within,
		"in any order": rand.New(rand.NewSource(int64(n))).Perm(n),
	}
}

// wrongPlaces: numbers that are no place, nor the end, of n elements.
func wrongPlaces(n int) []int {
	return []int{-1, -2, -n, -n - 1, n + 1, n + 2, 2*n + 1, math.MinInt, math.MinInt + 1, math.MaxInt - 1, math.MaxInt, 1 << 32, -1 << 32}
}

// sameRow holds what a row answers against the list that it must be.
func sameRow(t *testing.T, x ptree.Tree, l []ptree.Elem) {
	t.Helper()
	alive := 0
	var text strings.Builder
	for i, e := range l {
		if got, ok := x.At(i); got != e || !ok {
			t.Fatalf("At(%d) of %d: %+v, %v, not %+v", i, len(l), got, ok, e)
		}
		if got := x.Rank(i); got != alive {
			t.Fatalf("Rank(%d) of %d: %d, not %d", i, len(l), got, alive)
		}
		if e.Dead {
			continue
		}
		if got, ok := x.Select(alive); got != i || !ok {
			t.Fatalf("Select(%d) of %d: %d, %v, not %d", alive, len(l), got, ok, i)
		}
		alive++
		text.WriteString(string(e.Char))
	}
	sameSums(t, x, len(l), alive, text.String())
	sameAll(t, x, l)
}

// sameSums holds what a row tells of all its elements at once, and of none, against what it must.
func sameSums(t *testing.T, x ptree.Tree, n, alive int, text string) {
	t.Helper()
	if x.Len() != n || x.Alive() != alive || x.Text() != text {
		t.Fatalf("Len %d, Alive %d, Text %q, not %d, %d, %q", x.Len(), x.Alive(), x.Text(), n, alive, text)
	}
	if got := x.Rank(n); got != alive {
		t.Fatalf("Rank(%d), of all: %d, not %d", n, got, alive)
	}
	for _, i := range append(wrongPlaces(n), n) {
		if got, ok := x.At(i); got != (ptree.Elem{}) || ok {
			t.Fatalf("At(%d) of %d: %+v, %v", i, n, got, ok)
		}
		want := 0
		if i >= n {
			want = alive
		}
		if got := x.Rank(i); got != want {
			t.Fatalf("Rank(%d) of %d: %d, not %d", i, n, got, want)
		}
	}
	for _, k := range append(wrongPlaces(alive), alive) {
		if got, ok := x.Select(k); got != n || ok {
			t.Fatalf("Select(%d) of %d alive: %d, %v, not %d, false", k, alive, got, ok, n)
		}
	}
}

// sameAll goes over a row.
func sameAll(t *testing.T, x ptree.Tree, l []ptree.Elem) {
	t.Helper()
	n := 0
	for i, e := range x.All() {
		if i != n || i >= len(l) || e != l[i] {
			t.Fatalf("All of %d, the %d-th: %d, %+v", len(l), n, i, e)
		}
		n++
	}
	if n != len(l) {
		t.Fatalf("All of %d: %d", len(l), n)
	}
}

func TestP31WithoutElements(t *testing.T) {
	var x ptree.Tree
	sameRow(t, x, nil)
	e := elem(0)
	for _, i := range wrongPlaces(0) {
		if i == 0 {
			continue
		}
		if y, ok := x.Insert(i, e); y != x || ok {
			t.Errorf("Insert(%d): %v, %v", i, y.Text(), ok)
		}
	}
	for _, i := range append(wrongPlaces(0), 0) {
		if y, ok := x.Set(i, e); y != x || ok {
			t.Errorf("Set(%d): %v, %v", i, y.Text(), ok)
		}
	}
	sameRow(t, insert(t, x, 0, e), []ptree.Elem{e})
	sameRow(t, x, nil)
}

func TestP31LenAndAlive(t *testing.T) {
	for _, c := range []struct {
		text       string
		len, alive int
	}{
		{"", 0, 0}, {"a", 1, 1}, {"A", 1, 0}, {"aBc", 3, 2}, {"ABC", 3, 0}, {"abc", 3, 3}, {"AbCdEfG", 7, 3},
	} {
		x := row(t, letters(c.text))
		if x.Len() != c.len || x.Alive() != c.alive {
			t.Errorf("of %s: %d, %d", c.text, x.Len(), x.Alive())
		}
	}
}

// An element is kept whole, whatever it is: the same id twice, or one that may not be.
func TestP31ElementsAreAny(t *testing.T) {
	l := []ptree.Elem{
		{},
		{ID: mk(3, 2), Char: 'a'},
		{ID: mk(3, 2), Char: 'a'},
		{ID: mk(3, 2), Char: 'b', Dead: true},
		{ID: mk(math.MinInt64, math.MaxInt), Char: math.MinInt32},
		{ID: mk(-1, 0), Char: math.MaxInt32, Dead: true},
		{},
	}
	sameRow(t, row(t, l), l)
	var x ptree.Tree
	for i := range l {
		x = insert(t, x, 0, l[len(l)-1-i])
	}
	sameRow(t, x, l)
}

func TestP31InsertAtEachPlace(t *testing.T) {
	e := ptree.Elem{ID: mk(9, 9), Char: 'x'}
	d := ptree.Elem{ID: mk(9, 8), Char: 'y', Dead: true}
	for n := range 40 {
		l := make([]ptree.Elem, n)
		for k := range l {
			l[k] = elem(k)
		}
		for _, order := range orders(n) {
			x := grown(t, l, order)
			for i := range n + 1 {
				sameRow(t, insert(t, x, i, e), slices.Insert(slices.Clone(l), i, e))
				sameRow(t, insert(t, x, i, d), slices.Insert(slices.Clone(l), i, d))
			}
			sameRow(t, x, l)
		}
	}
}

func TestP31SetAtEachPlace(t *testing.T) {
	e := ptree.Elem{ID: mk(9, 9), Char: 'x'}
	d := ptree.Elem{ID: mk(9, 8), Char: 'y', Dead: true}
	for n := range 40 {
		l := make([]ptree.Elem, n)
		for k := range l {
			l[k] = elem(k)
		}
		for _, order := range orders(n) {
			x := grown(t, l, order)
			for i := range n {
				for _, in := range []ptree.Elem{e, d, l[i], {}} {
					want := slices.Clone(l)
					want[i] = in
					y := set(t, x, i, in)
					sameRow(t, y, want)
					sameRow(t, set(t, y, i, l[i]), l)
				}
			}
			sameRow(t, x, l)
		}
	}
}

func TestP31NoSuchPlace(t *testing.T) {
	for _, n := range []int{1, 2, 3, 7, 8, 100} {
		l := make([]ptree.Elem, n)
		for k := range l {
			l[k] = elem(k)
		}
		x := row(t, l)
		for _, i := range wrongPlaces(n) {
			y, ok := x.Insert(i, elem(n))
			if ok {
				t.Errorf("Insert(%d) into %d: true", i, n)
			}
			sameRow(t, y, l)
		}
		for _, i := range append(wrongPlaces(n), n) {
			y, ok := x.Set(i, elem(n))
			if ok {
				t.Errorf("Set(%d) of %d: true", i, n)
			}
			sameRow(t, y, l)
		}
		sameRow(t, x, l)
	}
}

// allRows hands to visit each row of n elements, made in each order of inserts.
func allRows(t *testing.T, x ptree.Tree, l []ptree.Elem, n int, visit func(ptree.Tree, []ptree.Elem)) {
	visit(x, l)
	if len(l) == n {
		return
	}
	e := elem(len(l))
	for i := range len(l) + 1 {
		allRows(t, insert(t, x, i, e), slices.Insert(slices.Clone(l), i, e), n, visit)
	}
}

func TestP31AllOrdersOfFewInserts(t *testing.T) {
	rows := 0
	allRows(t, ptree.Tree{}, nil, 7, func(x ptree.Tree, l []ptree.Elem) {
		rows++
		sameRow(t, x, l)
	})
	if want := 1 + 1 + 2 + 6 + 24 + 120 + 720 + 5040; rows != want {
		t.Errorf("%d rows, not %d", rows, want)
	}
}

func TestP31ManyInsertsAndSets(t *testing.T) {
	for seed := range int64(20) {
		r := rand.New(rand.NewSource(seed))
		var x ptree.Tree
		var l []ptree.Elem
		for k := range 600 {
			e := elem(r.Intn(1000))
			if len(l) > 0 && r.Intn(3) == 0 {
				i := r.Intn(len(l))
				x = set(t, x, i, e)
				l[i] = e
			} else {
				i := r.Intn(len(l) + 1)
				x = insert(t, x, i, e)
				l = slices.Insert(l, i, e)
			}
			if k%50 == 0 || k == 599 {
				sameRow(t, x, l)
			}
		}
	}
}

func TestP31GrownInWhateverOrder(t *testing.T) {
	for _, n := range []int{1, 2, 3, 100, 4096} {
		l := make([]ptree.Elem, n)
		for k := range l {
			l[k] = elem(k)
		}
		for _, order := range orders(n) {
			sameRow(t, grown(t, l, order), l)
		}
	}
}

func TestP32RankAndSelect(t *testing.T) {
	x := row(t, letters("aBc"))
	for i, want := range []int{0, 1, 1, 2, 2, 2} {
		if got := x.Rank(i); got != want {
			t.Errorf("Rank(%d): %d, not %d", i, got, want)
		}
	}
	for _, c := range []struct {
		k, want int
		ok      bool
	}{
		{0, 0, true}, {1, 2, true}, {2, 3, false}, {3, 3, false}, {-1, 3, false},
		{math.MinInt, 3, false}, {math.MaxInt, 3, false},
	} {
		if got, ok := x.Select(c.k); got != c.want || ok != c.ok {
			t.Errorf("Select(%d): %d, %v, not %d, %v", c.k, got, ok, c.want, c.ok)
		}
	}
	for _, i := range []int{-1, math.MinInt} {
		if got := x.Rank(i); got != 0 {
			t.Errorf("Rank(%d): %d", i, got)
		}
	}
	if got := x.Rank(math.MaxInt); got != 2 {
		t.Errorf("Rank of all: %d", got)
	}
}

// All the ways in which few elements may be dead, in trees of many shapes.
func TestP32RankAndSelectWhoeverIsDead(t *testing.T) {
	const n = 9
	for dead := range 1 << n {
		l := make([]ptree.Elem, n)
		for k := range l {
			l[k] = elem(k)
			l[k].Dead = dead>>k&1 == 1
		}
		for _, order := range orders(n) {
			sameRow(t, grown(t, l, order), l)
		}
	}
}

func TestP32AllDead(t *testing.T) {
	for _, n := range []int{1, 2, 50, 1000} {
		l := make([]ptree.Elem, n)
		x := row(t, l)
		for i := range l {
			l[i] = ptree.Elem{ID: mk(int64(i+1), 1), Char: 'a', Dead: true}
			x = set(t, x, i, l[i])
		}
		sameRow(t, x, l)
		if x.Len() != n || x.Alive() != 0 || x.Text() != "" || x.Rank(n) != 0 {
			t.Errorf("of %d: %d alive, %q", n, x.Alive(), x.Text())
		}
		if k, ok := x.Select(0); k != n || ok {
			t.Errorf("Select(0) of %d: %d, %v", n, k, ok)
		}
	}
}

func TestP32All(t *testing.T) {
	for range (ptree.Tree{}).All() {
		t.Error("an element of none")
	}
	l := letters("aBcde")
	all := row(t, l).All()
	for range 2 { // it can be gone over again
		var places []int
		var got []ptree.Elem
		for i, e := range all {
			places, got = append(places, i), append(got, e)
		}
		if !slices.Equal(places, []int{0, 1, 2, 3, 4}) || !slices.Equal(got, l) {
			t.Errorf("%v, %+v", places, got)
		}
	}
}

// Going over a row may end behind any element; nothing is handed on behind that.
func TestP32AllEndsEarly(t *testing.T) {
	const n = 40
	l := make([]ptree.Elem, n)
	for k := range l {
		l[k] = elem(k)
	}
	for word, order := range orders(n) {
		x := grown(t, l, order)
		for last := range n {
			calls := 0
			x.All()(func(i int, e ptree.Elem) bool {
				if i != calls || e != l[i] {
					t.Errorf("%s: the %d-th: %d, %+v", word, calls, i, e)
				}
				calls++
				return i != last
			})
			if calls != last+1 {
				t.Errorf("%s: ended at %d, but there were %d calls", word, last, calls)
			}
			places := 0
			for i := range x.All() {
				if i == last {
					break
				}
				places++
			}
			if places != last {
				t.Errorf("%s: %d behind a break at %d", word, places, last)
			}
		}
		sameRow(t, x, l)
	}
}

// Two may go over one row at once, each by itself.
func TestP32AllWithinAll(t *testing.T) {
	l := letters("aBcdE")
	x := row(t, l)
	all := x.All()
	pairs := 0
	for i, d := range all {
		for k, e := range all {
			if d != l[i] || e != l[k] || pairs != i*len(l)+k {
				t.Fatalf("%d %+v, %d %+v", i, d, k, e)
			}
			pairs++
		}
	}
	if pairs != len(l)*len(l) {
		t.Errorf("%d", pairs)
	}
	next, stop := iter.Pull2(all)
	defer stop()
	for i := range l {
		if at, e, ok := next(); at != i || e != l[i] || !ok {
			t.Errorf("%d, %+v, %v", at, e, ok)
		}
	}
	if _, _, ok := next(); ok {
		t.Error("one more than there are")
	}
}

func TestP32Text(t *testing.T) {
	const wrong = "\uFFFD"
	for _, c := range []struct {
		chars []rune
		want  string
	}{
		{nil, ""},
		{[]rune{'a', 'c'}, "ac"},
		{[]rune{0}, "\x00"},
		{[]rune{0x1F, ' ', 0x7F}, "\x1F \x7F"},
		{[]rune{0x80, 0x7FF, 0x800, 0xFFFF, 0x10000, 0x10FFFF}, "\u0080\u07FF\u0800\uFFFF\U00010000\U0010FFFF"},
		{[]rune{'a', 0xE4, 0x20AC, 0x1F600}, "a\u00E4\u20AC\U0001F600"},
		{[]rune{0xD7FF, 0xE000}, "\uD7FF\uE000"},
		{[]rune{0xFFFD, 0xFFFE}, "\uFFFD\uFFFE"},
		{[]rune{0xD800}, wrong},
		{[]rune{0xDFFF}, wrong},
		{[]rune{0xD83D, 0xDE00}, wrong + wrong},
		{[]rune{0x110000}, wrong},
		{[]rune{-1}, wrong},
		{[]rune{math.MinInt32, 'a', math.MaxInt32}, wrong + "a" + wrong},
	} {
		var l []ptree.Elem
		for _, r := range c.chars {
			l = append(l, ptree.Elem{Char: r}, ptree.Elem{Char: r, Dead: true})
		}
		if got := row(t, l).Text(); got != c.want {
			t.Errorf("of %x: %q, not %q", c.chars, got, c.want)
		}
	}
}

// Whatever the Chars are, the Text is UTF-8, with a character for each that is alive.
func TestP32TextIsUTF8(t *testing.T) {
	r := rand.New(rand.NewSource(1))
	var x ptree.Tree
	var want []rune
	for i := range 3000 {
		e := ptree.Elem{Char: rune(r.Uint32()) >> r.Intn(32), Dead: i%5 == 0}
		x = insert(t, x, i, e)
		if e.Dead {
			continue
		}
		if utf8.ValidRune(e.Char) {
			want = append(want, e.Char)
		} else {
			want = append(want, 0xFFFD)
		}
	}
	got := x.Text()
	if !utf8.ValidString(got) || !slices.Equal([]rune(got), want) {
		t.Errorf("%q", got)
	}
}

// What the document says of a row's depth.
func depthInBounds(n, depth int) bool {
	if n == 0 {
		return depth == 0
	}
	return depth > 0 && depth/3 < 62 && 1<<(depth/3) <= n+1
}

func TestP33DepthWithoutElements(t *testing.T) {
	if got := (ptree.Tree{}).Depth(); got != 0 {
		t.Errorf("%d", got)
	}
	if got := insert(t, ptree.Tree{}, 0, ptree.Elem{}).Depth(); got != 1 {
		t.Errorf("of one element: %d", got)
	}
}

func TestP33DepthGrownInWhateverOrder(t *testing.T) {
	const n = 20000
	end := func(k int) int { return k }
	front := func(int) int { return 0 }
	middle := func(k int) int { return k / 2 }
	both := func(k int) int { return k * (k % 2) }
	third := func(k int) int { return k / 3 }
	r := rand.New(rand.NewSource(7))
	for word, place := range map[string]func(int) int{
		"at the end": end, "at the front": front, "in the middle": middle, "at both ends": both, "at a third": third,
		"anywhere":         func(k int) int { return r.Intn(k + 1) },
		"behind the first": func(k int) int { return min(k, 1) },
		"ahead of the end": func(k int) int { return max(k-1, 0) },
		"end, then front": func(k int) int {
			if k < n/2 {
				return k
			}
			return 0
		},
		"near one place": func(k int) int { return min(k, n/2) },
	} {
		var x ptree.Tree
		for k := range n {
			x = insert(t, x, place(k), elem(k))
			if !depthInBounds(k+1, x.Depth()) {
				t.Fatalf("grown %s: Depth %d of %d", word, x.Depth(), k+1)
			}
			if x.Len() != k+1 {
				t.Fatalf("grown %s: Len %d of %d", word, x.Len(), k+1)
			}
		}
	}
}

func TestP33DepthOfAllOrdersOfFewInserts(t *testing.T) {
	allRows(t, ptree.Tree{}, nil, 7, func(x ptree.Tree, l []ptree.Elem) {
		if !depthInBounds(len(l), x.Depth()) {
			t.Fatalf("Depth %d of %d", x.Depth(), len(l))
		}
	})
}

// Another element at a place leaves the tree's shape.
func TestP33SetLeavesTheDepth(t *testing.T) {
	x := row(t, letters("aBcdEfghIjklM"))
	for i := range x.Len() {
		for _, e := range []ptree.Elem{{}, {Char: 'z', Dead: true}} {
			if y := set(t, x, i, e); y.Depth() != x.Depth() {
				t.Errorf("Set(%d): Depth %d, of %d", i, y.Depth(), x.Depth())
			}
		}
	}
}

// kept is a row, and what it was when it was made.
type kept struct {
	row ptree.Tree
	was []ptree.Elem
}

// Rows are made of rows, of any that there are; all stay as they were.
func TestP34AllRowsStay(t *testing.T) {
	for seed := range int64(5) {
		r := rand.New(rand.NewSource(seed))
		rows := []kept{{}}
		for k := range 400 {
			of := rows[r.Intn(len(rows))]
			if r.Intn(2) == 0 {
				of = rows[len(rows)-1]
			}
			e := elem(k)
			if n := len(of.was); n > 0 && r.Intn(3) == 0 {
				i := r.Intn(n)
				next := slices.Clone(of.was)
				next[i] = e
				rows = append(rows, kept{set(t, of.row, i, e), next})
			} else {
				i := r.Intn(n + 1)
				rows = append(rows, kept{insert(t, of.row, i, e), slices.Insert(slices.Clone(of.was), i, e)})
			}
		}
		for _, k := range rows {
			sameRow(t, k.row, k.was)
		}
	}
}

// Of one row many are made: none of them sees the others.
func TestP34ManyOfOne(t *testing.T) {
	const n = 64
	l := make([]ptree.Elem, n)
	for k := range l {
		l[k] = elem(k)
	}
	e := ptree.Elem{ID: mk(99, 9), Char: 'x'}
	for _, order := range orders(n) {
		x := grown(t, l, order)
		depth := x.Depth()
		var rows []kept
		for i := range n + 1 {
			rows = append(rows, kept{insert(t, x, i, e), slices.Insert(slices.Clone(l), i, e)})
		}
		for i := range n {
			was := slices.Clone(l)
			was[i] = e
			rows = append(rows, kept{set(t, x, i, e), was})
		}
		for _, k := range rows {
			sameRow(t, k.row, k.was)
		}
		sameRow(t, x, l)
		if x.Depth() != depth {
			t.Errorf("Depth %d, of %d", x.Depth(), depth)
		}
	}
}

// What goes over a row goes over that one, whatever is made of it meanwhile.
func TestP34AllStays(t *testing.T) {
	l := letters("aBcdE")
	x := row(t, l)
	all := x.All()
	y := x
	n := 0
	for i, e := range all {
		if i != n || e != l[i] {
			t.Errorf("the %d-th: %d, %+v", n, i, e)
		}
		n++
		y = insert(t, y, 0, elem(i))
		y = set(t, y, y.Len()-1, elem(i))
	}
	if n != len(l) || y.Len() != 2*len(l) {
		t.Errorf("%d, and %d", n, y.Len())
	}
	sameRow(t, x, l)
	sameAll(t, x, l)
}

// A call that answers false leaves its row, too.
func TestP34WrongPlacesLeaveTheRow(t *testing.T) {
	l := letters("aBc")
	x := row(t, l)
	for _, i := range wrongPlaces(3) {
		x.Insert(i, elem(9))
		x.Set(i, elem(9))
		x.At(i)
		x.Rank(i)
		x.Select(i)
		sameRow(t, x, l)
	}
}

// Many threads make rows of one row, and look at it.
func TestP34ManyThreadsOfOneRow(t *testing.T) {
	l := make([]ptree.Elem, 200)
	for k := range l {
		l[k] = elem(k)
	}
	x := row(t, l)
	text := x.Text()
	var wait sync.WaitGroup
	for seed := range int64(8) {
		wait.Go(func() {
			r := rand.New(rand.NewSource(seed))
			y := x
			for k := range 300 {
				y, _ = y.Insert(r.Intn(y.Len()+1), elem(k))
				y, _ = y.Set(r.Intn(y.Len()), elem(k))
			}
			if y.Len() != 500 || x.Text() != text {
				t.Errorf("%d, %q", y.Len(), x.Text())
			}
		})
	}
	wait.Wait()
	sameRow(t, x, l)
}
