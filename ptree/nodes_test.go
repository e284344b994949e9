package ptree

import (
	"math/rand"
	"testing"
)

// longest is how many nodes stand one below the other at most, counted.
func longest(n *node) int {
	if n == nil {
		return 0
	}
	return 1 + max(longest(n.left), longest(n.right))
}

// nodes are all nodes of a tree.
func nodes(n *node, into map[*node]bool) map[*node]bool {
	if n != nil {
		into[n] = true
		nodes(n.left, into)
		nodes(n.right, into)
	}
	return into
}

// fresh is how many nodes of a tree aren't those of an elder one.
func fresh(n *node, elder map[*node]bool) int {
	if n == nil || elder[n] {
		return 0
	}
	return 1 + fresh(n.left, elder) + fresh(n.right, elder)
}

func grow(k int, place func(k int) int) Tree {
	var t Tree
	for i := range k {
		t, _ = t.Insert(place(i), Elem{Char: rune(i), Dead: i%3 == 0})
	}
	return t
}

// places are ways to grow a row: at the ends, in the middle, anywhere.
func places() []func(int) int {
	r := rand.New(rand.NewSource(1))
	return []func(int) int{
		func(k int) int { return k },
		func(int) int { return 0 },
		func(k int) int { return k / 2 },
		func(k int) int { return r.Intn(k + 1) },
	}
}

func TestP33DepthIsThatOfTheTree(t *testing.T) {
	for _, place := range places() {
		for k := range 200 {
			x := grow(k, place)
			if got, want := x.Depth(), longest(x.root); got != want {
				t.Fatalf("Depth of %d: %d, not %d", k, got, want)
			}
			for i := range min(k, 5) {
				y, _ := x.Set(i, Elem{Dead: true})
				if got, want := y.Depth(), longest(y.root); got != want {
					t.Fatalf("Depth of %d behind Set: %d, not %d", k, got, want)
				}
			}
		}
	}
}

// The bound that the document sets needs less; that sides are alike but for one
// is what node says of itself, and what turns sides takes for granted.
func TestP33SidesAreBalanced(t *testing.T) {
	for _, place := range places() {
		for n := range nodes(grow(3000, place).root, map[*node]bool{}) {
			if d := longest(n.left) - longest(n.right); d < -1 || d > 1 {
				t.Fatalf("sides of the depths %d and %d", longest(n.left), longest(n.right))
			}
		}
	}
}

// Rows share what they have in common: what is new is the way to a place, and
// the node there; turned sides make no other.
func TestRowsShareNodes(t *testing.T) {
	for _, place := range places() {
		x := grow(1000, place)
		elder := nodes(x.root, map[*node]bool{})
		if len(elder) != 1000 {
			t.Fatalf("%d nodes", len(elder))
		}
		for i := range 1000 {
			y, _ := x.Insert(i, Elem{Char: 'x'})
			if got := fresh(y.root, elder); got > x.Depth()+1 {
				t.Errorf("Insert(%d) makes %d nodes, of a depth of %d", i, got, x.Depth())
			}
			z, _ := x.Set(i, Elem{Char: 'x'})
			if got := fresh(z.root, elder); got > x.Depth() {
				t.Errorf("Set(%d) makes %d nodes, of a depth of %d", i, got, x.Depth())
			}
		}
	}
}
