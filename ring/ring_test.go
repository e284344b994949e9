package ring_test

import (
	"math"
	"math/rand"
	"slices"
	"strconv"
	"strings"
	"testing"

	"selvedge/api"
	"selvedge/event"
	"selvedge/id"
	"selvedge/ring"
	"selvedge/version"
)

// change is one of a Seq, whose other fields hang on it, so that none can be mixed up.
func change(seq int64) version.Change {
	return version.Change{
		Seq: seq, At: int(seq) + 1, ID: id.ID{Counter: seq + 2, Site: 3}, Char: 'a' + rune(seq%26), Del: seq%2 == 0,
	}
}

func lag(from, to int64) event.Lag { return event.Lag{From: from, To: to} }

// story are the Seqs of changes, and the Lags, with a blank between them.
func story(l []any) string {
	var s []string
	for _, e := range l {
		switch x := e.(type) {
		case version.Change:
			s = append(s, strconv.FormatInt(x.Seq, 10))
		case event.Lag:
			s = append(s, strconv.FormatInt(x.From, 10)+".."+strconv.FormatInt(x.To, 10))
		default:
			s = append(s, "?")
		}
	}
	return strings.Join(s, " ")
}

// empty is a buffer of a size that may be.
func empty(t *testing.T, size int) ring.Buffer {
	t.Helper()
	b, e := ring.New(size)
	if e != api.OK {
		t.Fatalf("New(%d): %v", size, e)
	}
	return b
}

// put is a buffer behind changes of Seqs.
func put(b ring.Buffer, seqs ...int64) ring.Buffer {
	for _, seq := range seqs {
		b = b.Put(change(seq))
	}
	return b
}

// all are the events of a buffer.
func all(b ring.Buffer) []any {
	_, l := b.Take(math.MaxInt)
	return l
}

// model is what must be in a buffer: the changes behind each of its events. A Lag
// has more than one behind it.
type model struct {
	size   int
	groups [][]version.Change
}

func (m model) put(c version.Change) model {
	g := slices.Clone(m.groups)
	switch n := len(g); {
	case m.size == 0:
	case n < m.size:
		g = append(g, []version.Change{c})
	default:
		g[n-1] = append(slices.Clone(g[n-1]), c)
	}
	return model{m.size, g}
}

func (m model) take(most int) (model, []any) {
	n := 0
	for n < most && n < len(m.groups) {
		n++
	}
	return model{m.size, slices.Clone(m.groups[n:])}, model{m.size, m.groups[:n]}.events()
}

func (m model) events() []any {
	var l []any
	for _, g := range m.groups {
		if len(g) == 1 {
			l = append(l, g[0])
		} else {
			l = append(l, lag(g[0].Seq, g[len(g)-1].Seq))
		}
	}
	return l
}

func (m model) lags() int {
	n := 0
	for _, g := range m.groups {
		if len(g) > 1 {
			n++
		}
	}
	return n
}

// same holds all that a buffer tells against what must be in it.
func same(t *testing.T, b ring.Buffer, m model) {
	t.Helper()
	if got := all(b); !slices.Equal(got, m.events()) {
		t.Fatalf("of Size %d: %s, not %s", m.size, story(got), story(m.events()))
	}
	if b.Len() != len(m.groups) {
		t.Fatalf("Len: %d, not %d, of %s", b.Len(), len(m.groups), story(m.events()))
	}
	if b.Lags() != m.lags() {
		t.Fatalf("Lags: %d, not %d, of %s", b.Lags(), m.lags(), story(m.events()))
	}
}

func TestP101New(t *testing.T) {
	for size := 1; size <= api.MaxRing; size++ {
		b := empty(t, size)
		m := model{size: size}
		same(t, b, m)
		for seq := range int64(size) + 3 {
			b, m = b.Put(change(seq+1)), m.put(change(seq+1))
			same(t, b, m)
		}
	}
	if api.MaxRing != 64 {
		t.Errorf("the document bounds the Size by 64, not %d", api.MaxRing)
	}
}

func TestP101NewWrongSize(t *testing.T) {
	for _, size := range []int{0, 65, 66, 128, 1 << 20, math.MaxInt, -1, -2, -64, math.MinInt} {
		b, e := ring.New(size)
		if e != api.ErrRange {
			t.Errorf("New(%d): %v", size, e)
		}
		same(t, b, model{})
		same(t, put(b, 1, 2, 3), model{})
	}
}

func TestP101Put(t *testing.T) {
	for _, c := range []struct {
		size int
		seqs []int64
		want string
		lags int
	}{
		{2, []int64{1, 2, 3, 4}, "1 2..4", 1}, // the document's example
		{2, nil, "", 0},
		{2, []int64{1}, "1", 0},
		{2, []int64{1, 2}, "1 2", 0},
		{2, []int64{1, 2, 3}, "1 2..3", 1},
		{1, []int64{1}, "1", 0},
		{1, []int64{1, 2}, "1..2", 1},
		{1, []int64{1, 2, 3}, "1..3", 1},
		{1, []int64{7, 8, 9, 10, 11}, "7..11", 1},
		{3, []int64{5, 6}, "5 6", 0},
		{3, []int64{5, 6, 7}, "5 6 7", 0},
		{3, []int64{5, 6, 7, 8}, "5 6 7..8", 1},
		{3, []int64{5, 6, 7, 8, 9, 10}, "5 6 7..10", 1},
		// of whatever Seqs
		{1, []int64{0, 0}, "0..0", 1},
		{1, []int64{5, 5, 5}, "5..5", 1},
		{1, []int64{9, 3}, "9..3", 1},
		{1, []int64{9, 30, 3}, "9..3", 1},
		{2, []int64{9, 5, 1}, "9 5..1", 1},
		{2, []int64{-4, -4, -4, -9}, "-4 -4..-9", 1},
		{2, []int64{1, -1, 0, -7}, "1 -1..-7", 1},
		{3, []int64{4, 4, 4}, "4 4 4", 0},
		{1, []int64{math.MinInt64, math.MaxInt64}, "-9223372036854775808..9223372036854775807", 1},
		{1, []int64{math.MaxInt64, math.MinInt64}, "9223372036854775807..-9223372036854775808", 1},
	} {
		b := put(empty(t, c.size), c.seqs...)
		if got := story(all(b)); got != c.want || b.Lags() != c.lags {
			t.Errorf("%v, into Size %d: %s, %d Lags; not %s, %d", c.seqs, c.size, got, b.Lags(), c.want, c.lags)
		}
	}
}

// What waits as a change is the whole of it, whatever its fields are.
func TestP101PutWholeChange(t *testing.T) {
	for _, c := range []version.Change{
		{},
		{Seq: 1},
		{Seq: 1, Del: true},
		{Seq: 5, At: 4, ID: id.ID{Counter: 7, Site: 8}, Char: 'z'},
		{Seq: 5, At: 4, ID: id.ID{Counter: 7, Site: 8}, Char: 'z', Del: true},
		{Seq: math.MinInt64, At: math.MinInt, ID: id.ID{Counter: math.MinInt64, Site: math.MinInt}, Char: math.MinInt32},
		{Seq: math.MaxInt64, At: math.MaxInt, ID: id.ID{Counter: math.MaxInt64, Site: math.MaxInt}, Char: math.MaxInt32},
	} {
		m := model{size: 2}.put(c).put(c)
		same(t, empty(t, 2).Put(c).Put(c), m)
		same(t, empty(t, 2).Put(c).Put(c).Put(change(9)), m.put(change(9)))
		same(t, empty(t, 2).Put(change(9)).Put(change(9)).Put(c), model{2, [][]version.Change{
			{change(9)}, {change(9), c},
		}})
	}
}

func TestP101PutFullSize(t *testing.T) {
	b, m := empty(t, api.MaxRing), model{size: api.MaxRing}
	for seq := range int64(200) {
		b, m = b.Put(change(seq+1)), m.put(change(seq+1))
		same(t, b, m)
	}
	if l := all(b); len(l) != 64 || l[62] != any(change(63)) || l[63] != any(lag(64, 200)) {
		t.Errorf("behind 200 changes: %s", story(l))
	}
}

func TestP101Take(t *testing.T) {
	for _, c := range []struct {
		seqs        []int64
		most        int
		taken, left string
	}{
		{nil, 0, "", ""},
		{nil, 1, "", ""},
		{nil, -1, "", ""},
		{nil, math.MaxInt, "", ""},
		{nil, math.MinInt, "", ""},
		{[]int64{1}, 0, "", "1"},
		{[]int64{1}, -1, "", "1"},
		{[]int64{1}, 1, "1", ""},
		{[]int64{1}, 2, "1", ""},
		{[]int64{1, 2}, 1, "1", "2"},
		{[]int64{1, 2, 3}, 0, "", "1 2 3"},
		{[]int64{1, 2, 3}, 1, "1", "2 3"},
		{[]int64{1, 2, 3}, 2, "1 2", "3"},
		{[]int64{1, 2, 3}, 3, "1 2 3", ""},
		{[]int64{1, 2, 3}, 4, "1 2 3", ""},
		{[]int64{1, 2, 3}, 1000, "1 2 3", ""},
		{[]int64{1, 2, 3}, math.MaxInt, "1 2 3", ""},
		{[]int64{1, 2, 3}, -1, "", "1 2 3"},
		{[]int64{1, 2, 3}, -2, "", "1 2 3"},
		{[]int64{1, 2, 3}, -3, "", "1 2 3"},
		{[]int64{1, 2, 3}, -1000, "", "1 2 3"},
		{[]int64{1, 2, 3}, math.MinInt, "", "1 2 3"},
		{[]int64{1, 2, 3}, math.MinInt + 1, "", "1 2 3"},
		{[]int64{1, 2, 3, 4, 5}, 2, "1 2", "3..5"},
		{[]int64{1, 2, 3, 4, 5}, 3, "1 2 3..5", ""},
		{[]int64{1, 2, 3, 4, 5}, 9, "1 2 3..5", ""},
	} {
		b := put(empty(t, 3), c.seqs...)
		left, taken := b.Take(c.most)
		if story(taken) != c.taken || story(all(left)) != c.left || left.Len() != len(all(left)) {
			t.Errorf("Take(%d) of %s: %s, and %s left; not %s, and %s",
				c.most, story(all(b)), story(taken), story(all(left)), c.taken, c.left)
		}
	}
}

// What was full and isn't any more has room for as many as were taken, whatever
// stands last; a Lag that stands last but not at the end of the Size stays as it is.
func TestP101PutBehindTake(t *testing.T) {
	for _, c := range []struct {
		size  int
		first []int64
		most  int
		next  []int64
		want  string
		lags  int
	}{
		{1, []int64{1, 2}, 1, []int64{3}, "3", 0},
		{1, []int64{1, 2}, 1, []int64{3, 4, 5}, "3..5", 1},
		{1, []int64{1, 2}, 0, []int64{3}, "1..3", 1},
		{2, []int64{1, 2}, 1, []int64{3}, "2 3", 0},
		{2, []int64{1, 2}, 1, []int64{3, 4}, "2 3..4", 1},
		{2, []int64{1, 2, 3, 4, 5}, 1, []int64{6}, "2..5 6", 1},
		{2, []int64{1, 2, 3, 4, 5}, 1, []int64{6, 7}, "2..5 6..7", 2},
		{2, []int64{1, 2, 3, 4, 5}, 1, []int64{6, 7, 8, 9}, "2..5 6..9", 2},
		{2, []int64{1, 2, 3, 4, 5}, 2, []int64{6, 7, 8, 9}, "6 7..9", 1},
		{2, []int64{1, 2, 3, 4, 5}, -1, []int64{6}, "1 2..6", 1},
		{3, []int64{1, 2, 3, 4}, 2, []int64{5}, "3..4 5", 1},
		{3, []int64{1, 2, 3, 4}, 2, []int64{5, 6}, "3..4 5 6", 1},
		{3, []int64{1, 2, 3, 4}, 2, []int64{5, 6, 7}, "3..4 5 6..7", 2},
		{3, []int64{1, 2, 3, 4}, 2, []int64{5, 6, 7, 8}, "3..4 5 6..8", 2},
	} {
		b, _ := put(empty(t, c.size), c.first...).Take(c.most)
		b = put(b, c.next...)
		if got := story(all(b)); got != c.want || b.Lags() != c.lags || b.Len() > c.size {
			t.Errorf("Size %d, put %v, Take(%d), put %v: %s, %d Lags; not %s, %d",
				c.size, c.first, c.most, c.next, got, b.Lags(), c.want, c.lags)
		}
	}
}

// All events can come to be Lags: what stands last is taken up to, and put behind.
func TestP101LagsAlone(t *testing.T) {
	b, m := empty(t, 4), model{size: 4}
	seq := int64(0)
	for range 20 {
		for range 6 {
			seq++
			b, m = b.Put(change(seq)), m.put(change(seq))
		}
		b, _ = b.Take(1)
		m, _ = m.take(1)
		same(t, b, m)
	}
	if b.Len() != 3 || b.Lags() != 3 {
		t.Errorf("%s: %d events, %d Lags", story(all(b)), b.Len(), b.Lags())
	}
}

func TestP101ZeroBuffer(t *testing.T) {
	var b ring.Buffer
	for seq := range int64(70) {
		b = b.Put(change(seq))
		same(t, b, model{})
	}
	for _, most := range []int{math.MinInt, -1, 0, 1, 64, math.MaxInt} {
		left, taken := b.Take(most)
		if len(taken) != 0 {
			t.Errorf("Take(%d) of the zero buffer: %s", most, story(taken))
		}
		same(t, left, model{})
		same(t, put(left, 1, 2), model{})
	}
}

// Two changes put onto one buffer, and what is put behind each part of it, don't
// meet: in all fills of small sizes.
func TestP101Fork(t *testing.T) {
	for size := 1; size <= 9; size++ {
		b, m := empty(t, size), model{size: size}
		for seq := range int64(2*size + 2) {
			for most := range size + 1 {
				left, taken := b.Take(most)
				rest, told := m.take(most)
				one, two := left.Put(change(100)), left.Put(change(200))
				three, four := one.Put(change(300)), one.Put(change(400))
				same(t, one, rest.put(change(100)))
				same(t, two, rest.put(change(200)))
				same(t, three, rest.put(change(100)).put(change(300)))
				same(t, four, rest.put(change(100)).put(change(400)))
				same(t, left, rest)
				same(t, b, m)
				if !slices.Equal(taken, told) {
					t.Fatalf("taken: %s, not %s", story(taken), story(told))
				}
			}
			b, m = b.Put(change(seq)), m.put(change(seq))
		}
	}
}

// What is taken is the caller's own: writing over it and behind its end reaches no
// buffer and nothing else that was taken.
func TestP101TakenIsNew(t *testing.T) {
	for size := 1; size <= 9; size++ {
		for n := range int64(2 * size) {
			for most := range size + 1 {
				b, m := empty(t, size), model{size: size}
				for seq := range n {
					b, m = b.Put(change(seq)), m.put(change(seq))
				}
				left, first := b.Take(most)
				rest, told := m.take(most)
				_, second := b.Take(most)
				first = first[:cap(first)]
				for i := range first {
					first[i] = "gone"
				}
				same(t, b, m)
				same(t, left, rest)
				if !slices.Equal(second, told) {
					t.Fatalf("written over: %s, not %s", story(second), story(told))
				}
			}
		}
	}
}

// world is buffers made of each other, in whatever order, beside what must be in each,
// and what was taken of them beside what must be in that.
type world struct {
	buffers []ring.Buffer
	models  []model
	taken   [][]any
	told    [][]any
}

// step makes one more buffer of one of those there are.
func (w *world) step(r *rand.Rand) {
	i := r.Intn(len(w.buffers))
	b, m := w.buffers[i], w.models[i]
	if r.Intn(3) == 0 {
		most := r.Intn(m.size+4) - 2
		left, taken := b.Take(most)
		rest, told := m.take(most)
		w.buffers, w.models = append(w.buffers, left), append(w.models, rest)
		w.taken, w.told = append(w.taken, taken), append(w.told, told)
		return
	}
	c := change(r.Int63n(2000) - 1000)
	w.buffers, w.models = append(w.buffers, b.Put(c)), append(w.models, m.put(c))
}

// Each buffer stays as it was, whatever is made of it, and so does what was taken.
func TestP101Values(t *testing.T) {
	r := rand.New(rand.NewSource(10))
	for _, size := range []int{0, 1, 2, 3, 4, 5, 7, 8, 9, 63, 64} {
		w := world{models: []model{{size: size}}}
		first, _ := ring.New(size)
		w.buffers = append(w.buffers, first)
		for range 1500 {
			w.step(r)
		}
		for i := range w.buffers {
			same(t, w.buffers[i], w.models[i])
		}
		for i := range w.taken {
			if !slices.Equal(w.taken[i], w.told[i]) {
				t.Fatalf("of Size %d was taken: %s, not %s", size, story(w.taken[i]), story(w.told[i]))
			}
		}
	}
}

// All ways to put one of some Seqs, or to take some, of a given length, into small
// sizes.
func TestP101AllShort(t *testing.T) {
	for size := 1; size <= 3; size++ {
		goAll(t, empty(t, size), model{size: size}, 6)
	}
}

// goAll does each thing that can be done to a buffer, and behind each all others.
func goAll(t *testing.T, b ring.Buffer, m model, steps int) {
	t.Helper()
	same(t, b, m)
	if steps == 0 {
		return
	}
	for _, seq := range []int64{1, 2, -1} {
		goAll(t, b.Put(change(seq)), m.put(change(seq)), steps-1)
	}
	for _, most := range []int{1, 2} {
		left, taken := b.Take(most)
		rest, told := m.take(most)
		if !slices.Equal(taken, told) {
			t.Fatalf("taken: %s, not %s", story(taken), story(told))
		}
		goAll(t, left, rest, steps-1)
	}
}
