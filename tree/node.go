package tree

import (
	"iter"
	"slices"
	"sort"
)

// pair is a key, and its value.
type pair struct{ key, value string }

// node is pairs in the order of keys, and, but on the last level, one more children: one
// ahead of each pair, and one behind all. Trees, and those who walk them, share nodes:
// once it is made, a node is never written into, nor are its lists.
type node struct {
	pairs []pair
	kids  []*node
}

// step is a node on a way down, and the place of its first key that is not ahead of the
// one that the way goes to: there is that key, or the child below which it would be.
type step struct {
	node *node
	at   int
}

// place is that of the first key that is not ahead of one.
func (n *node) place(key string) int {
	return sort.Search(len(n.pairs), func(i int) bool { return n.pairs[i].key >= key })
}

// down is the way from a node to a key: up to where it is, or to the last level, where
// it would be.
func (n *node) down(key string) (way []step, is bool) {
down:
	for {
		at := n.place(key)
		way = append(way, step{n, at})
		switch {
		case at < len(n.pairs) && n.pairs[at].key == key:
			return way, true
		case len(n.kids) == 0:
			break down
		}
		n = n.kids[at]
	}
	return way, false
}

// lead leads a way that ends at a key between children on to the last key ahead of it,
// which comes to stand in its place: then the one on the last level may go out.
func lead(way []step, key string) []step {
	// Below the child ahead of it the key would be behind all: the way to there is it.
	up := len(way) - 1
	n, at := way[up].node, way[up].at
	below, _ := n.kids[at].down(key)
	way = append(way, below...)
	last := &way[len(way)-1]
	last.at--
	way[up].node = &node{splice(n.pairs, at, at+1, last.node.pairs[last.at]), n.kids}
	return way
}

// all is the pairs of a node, and of those below it, in order.
func (n *node) all() iter.Seq2[string, string] {
	return func(yield func(key, value string) bool) {
		for at := range len(n.pairs) + 1 {
			if at < len(n.kids) {
				for key, value := range n.kids[at].all() {
					if !yield(key, value) {
						return
					}
				}
			}
			if at < len(n.pairs) && !yield(n.pairs[at].key, n.pairs[at].value) {
				return
			}
		}
	}
}

// part is a node's pairs from a place to ahead of another one, with the children about them.
func (n *node) part(from, to int) *node {
	if len(n.kids) == 0 {
		return &node{pairs: cut(n.pairs, from, to)}
	}
	return &node{cut(n.pairs, from, to), cut(n.kids, from, to+1)}
}

// join is one node of two, and of the pair between them.
func join(left *node, between pair, right *node) *node {
	return &node{
		slices.Concat(left.pairs, []pair{between}, right.pairs),
		slices.Concat(left.kids, right.kids),
	}
}

// cut is a list's elements from a place to ahead of another one. There is no room behind
// them: what is appended to them makes a new list, and does not write into this one.
func cut[T any](l []T, from, to int) []T { return l[from:to:to] }

// splice is a list with other elements in the place of those from a place to ahead of
// another one.
func splice[T any](l []T, from, to int, others ...T) []T {
	return append(append(cut(l, 0, from), others...), l[to:]...)
}
