package tree

import (
	"math/rand"
	"slices"
	"strconv"
	"testing"
)

// checkNode holds the nodes below one against the words: keys lie between those beside
// them above, all levels are as deep. How deep it is.
func checkNode(t *testing.T, n *node, from, to string) int {
	t.Helper()
	for i, p := range n.pairs {
		if i > 0 && p.key <= n.pairs[i-1].key || p.key <= from || to != "" && p.key >= to {
			t.Fatalf("the key %q is not between %q and %q, in order", p.key, from, to)
		}
	}
	if len(n.kids) == 0 {
		return 1
	}
	if len(n.kids) != len(n.pairs)+1 {
		t.Fatalf("%d children of %d keys", len(n.kids), len(n.pairs))
	}
	deep := 0
	for i, kid := range n.kids {
		lo, hi := from, to
		if i > 0 {
			lo = n.pairs[i-1].key
		}
		if i < len(n.pairs) {
			hi = n.pairs[i].key
		}
		d := checkNode(t, kid, lo, hi)
		if i > 0 && d != deep {
			t.Fatalf("children %d and %d levels deep", deep, d)
		}
		deep = d
	}
	return deep + 1
}

// frozen is all that a node and those below it have, written out.
func frozen(n *node) string {
	s := "("
	for i := range len(n.pairs) + 1 {
		if i < len(n.kids) {
			s += frozen(n.kids[i])
		}
		if i < len(n.pairs) {
			s += n.pairs[i].key + "=" + n.pairs[i].value + ","
		}
	}
	return s + ")"
}

// P4.2 and P4.3: behind each call all keys are in order from level to level, and Shape
// tells the nodes as they are.
func TestNodesInOrder(t *testing.T) {
	for order := leastOrder; order <= mostOrder; order++ {
		x, _ := New(order)
		source := rand.New(rand.NewSource(int64(order)))
		for turn := range 3000 {
			key := strconv.Itoa(source.Intn(40 * order))
			if source.Intn(3) > 0 != (turn > 2000) {
				x.Put(key, "")
			} else {
				x.Delete(key)
			}
			if deep := checkNode(t, x.root, "", ""); deep != len(x.Shape()) {
				t.Fatalf("order %d: %d levels, of which Shape tells %d", order, deep, len(x.Shape()))
			}
		}
	}
}

// P4.2: nodes stay as they are, which All and Copy stand on.
func TestNodesAreNotWrittenInto(t *testing.T) {
	for order := leastOrder; order <= mostOrder; order++ {
		x, _ := New(order)
		source := rand.New(rand.NewSource(int64(order)))
		var roots []*node
		var were []string
		for turn := range 400 {
			roots, were = append(roots, x.root), append(were, frozen(x.root))
			key := strconv.Itoa(source.Intn(120))
			if source.Intn(3) > 0 {
				x.Put(key, strconv.Itoa(turn))
			} else {
				x.Delete(key)
			}
		}
		for i, n := range roots {
			if now := frozen(n); now != were[i] {
				t.Fatalf("order %d: nodes of call %d turned from %s to %s", order, i, were[i], now)
			}
		}
	}
}

// P4.2: what comes behind a piece of a list does not go into the list.
func TestSpliceLeavesTheList(t *testing.T) {
	l := []int{1, 2, 3, 4, 5}
	for from := range len(l) + 1 {
		for to := from; to <= len(l); to++ {
			for n := range 4 {
				others := []int{7, 8, 9}[:n]
				got := splice(l, from, to, others...)
				want := slices.Concat(l[:from], others, l[to:])
				if !slices.Equal(got, want) {
					t.Errorf("from %d to %d, %v: %v", from, to, others, got)
				}
				_ = append(got[:len(got):len(got)], 6)
				_ = append(cut(l, from, to), 6, 6, 6)
				if !slices.Equal(l, []int{1, 2, 3, 4, 5}) {
					t.Fatalf("from %d to %d, %v: the list turned to %v", from, to, others, l)
				}
			}
		}
	}
}
