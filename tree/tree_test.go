package tree_test

import (
	"iter"
	"maps"
	"math"
	"math/rand"
	"slices"
	"strconv"
	"strings"
	"testing"

	"breviary/api"
	"breviary/tree"
)

// orders is every order that a tree may have.
func orders() []int {
	var l []int
	for order := 2; order <= 16; order++ {
		l = append(l, order)
	}
	return l
}

// made is a tree without keys.
func made(t *testing.T, order int) *tree.Tree {
	t.Helper()
	x, e := tree.New(order)
	if x == nil || e != api.OK {
		t.Fatalf("New(%d) answers %v %v", order, x, e)
	}
	return x
}

// pairs is all that an iterator tells, in order.
func pairs(all iter.Seq2[string, string]) [][2]string {
	var l [][2]string
	for k, v := range all {
		l = append(l, [2]string{k, v})
	}
	return l
}

// sorted is a model's keys in order, byte by byte, with their values.
func sorted(model map[string]string) [][2]string {
	var l [][2]string
	for _, k := range slices.Sorted(maps.Keys(model)) {
		l = append(l, [2]string{k, model[k]})
	}
	return l
}

// mustPut puts a key that may be, and holds the answer against the model, which it turns.
func mustPut(t *testing.T, x *tree.Tree, model map[string]string, key, value string) {
	t.Helper()
	want, there := model[key]
	old, was, e := x.Put(key, value)
	if old != want || was != there || e != api.OK {
		t.Fatalf("Put(%q, %q) answers %q %v %v, want %q %v", key, value, old, was, e, want, there)
	}
	model[key] = value
}

// mustDelete deletes a key that may be, and holds the answer against the model, which it turns.
func mustDelete(t *testing.T, x *tree.Tree, model map[string]string, key string) {
	t.Helper()
	want, fault := model[key], api.OK
	if _, there := model[key]; !there {
		fault = api.ErrNone
	}
	if v, e := x.Delete(key); v != want || e != fault {
		t.Fatalf("Delete(%q) answers %q %v, want %q %v", key, v, e, want, fault)
	}
	delete(model, key)
}

// checkShape holds a tree's shape against the words, and against how many keys it has.
func checkShape(t *testing.T, x *tree.Tree, order, size int) {
	t.Helper()
	if n := x.Len(); n != size {
		t.Fatalf("order %d: Len answers %d, want %d", order, n, size)
	}
	shape := x.Shape()
	nodes, sum := 1, 0
	for level, counts := range shape {
		if len(counts) != nodes {
			t.Fatalf("order %d: level %d has not %d nodes: %v", order, level, nodes, shape)
		}
		nodes = 0
		for _, n := range counts {
			least := order - 1
			switch {
			case level == 0 && len(shape) == 1:
				least = 0
			case level == 0:
				least = 1
			}
			if n < least || n > 2*order-1 {
				t.Fatalf("order %d: a node with %d keys on level %d: %v", order, n, level, shape)
			}
			nodes += n + 1
			sum += n
		}
	}
	if len(shape) == 0 || sum != size {
		t.Fatalf("order %d: %d keys in %v, want %d", order, sum, shape, size)
	}
	checkLevels(t, order, size, len(shape))
}

// checkLevels: a tree with so many levels has a key in its root, and two nodes, with
// order children each but on the last level, so many keys at least.
func checkLevels(t *testing.T, order, size, levels int) {
	t.Helper()
	least := 2
	for range levels - 1 {
		least *= order
	}
	if levels > 1 && size < least-1 {
		t.Fatalf("order %d: %d levels of %d keys", order, levels, size)
	}
}

// checkAll holds all that a tree tells against the model.
func checkAll(t *testing.T, x *tree.Tree, order int, model map[string]string) {
	t.Helper()
	checkShape(t, x, order, len(model))
	if l, want := pairs(x.All()), sorted(model); !slices.Equal(l, want) {
		t.Fatalf("order %d: All tells %q, want %q", order, l, want)
	}
	for k, v := range model {
		if got, e := x.Get(k); got != v || e != api.OK {
			t.Fatalf("order %d: Get(%q) answers %q %v, want %q", order, k, got, e, v)
		}
	}
}

// checkCeil holds Ceil of a text against what the keys tell, gone through one by one.
func checkCeil(t *testing.T, x *tree.Tree, model map[string]string, text string) {
	t.Helper()
	var key, value string
	fault := api.ErrNone
	for k, v := range model {
		if k >= text && (fault != api.OK || k < key) {
			key, value, fault = k, v, api.OK
		}
	}
	if k, v, e := x.Ceil(text); k != key || v != value || e != fault {
		t.Fatalf("Ceil(%q) answers %q %q %v, want %q %q %v", text, k, v, e, key, value, fault)
	}
}

// numbered is n keys in order.
func numbered(n int) []string {
	var l []string
	for i := range n {
		l = append(l, "k"+strconv.Itoa(10000+i))
	}
	return l
}

// edgeKeys is keys of 1 and of 64 bytes, of any bytes, and some that begin others.
func edgeKeys() []string {
	l := []string{
		"\x00", "\x00\x00", "\x00\x01", "\x01", "a", "a\x00", "a\x00b", "aa", "ab", "a\x7f", "a\x80", "a\xff", "b",
		"\x7f", "\x80", "\xc3\xa4", "\xff", "\xff\x00", "\xff\xfe", "\xff\xff", "\n", " ", "0", "00", "-1",
		strings.Repeat("a", 63) + "b", strings.Repeat("a", 63) + "\x00",
	}
	for _, b := range []string{"\x00", "a", "\xff"} {
		for _, n := range []int{15, 16, 17, 31, 32, 33, 62, 63, 64} {
			l = append(l, strings.Repeat(b, n))
		}
	}
	return l
}

// rows is ways to go through a list's places, all of them once.
func rows(n int) map[string][]int {
	up, ends, middle, halves := make([]int, n), make([]int, n), make([]int, n), make([]int, n)
	for i := range n {
		up[i] = i
		ends[i] = i / 2
		if i%2 == 1 {
			ends[i] = n - 1 - i/2
		}
		middle[n-1-i] = ends[i]
		halves[i] = 2 * i
		if 2*i >= n {
			halves[i] = 2*(i-(n+1)/2) + 1
		}
	}
	down := slices.Clone(up)
	slices.Reverse(down)
	return map[string][]int{
		"up": up, "down": down, "from the ends": ends, "from the middle": middle, "each other one": halves,
		"mixed": rand.New(rand.NewSource(int64(n))).Perm(n), "mixed otherwise": rand.New(rand.NewSource(int64(n) + 1)).Perm(n),
	}
}

// P4.1 and P4.2: a new tree, of each order, has no keys, and one node.
func TestNew(t *testing.T) {
	for _, order := range orders() {
		x := made(t, order)
		checkAll(t, x, order, nil)
		if s := x.Shape(); len(s) != 1 || !slices.Equal(s[0], []int{0}) {
			t.Errorf("order %d: Shape of no keys answers %v", order, s)
		}
		if v, e := x.Get("a"); v != "" || e != api.ErrNone {
			t.Errorf("order %d: Get of no keys answers %q %v", order, v, e)
		}
		if v, e := x.Delete("a"); v != "" || e != api.ErrNone {
			t.Errorf("order %d: Delete of no keys answers %q %v", order, v, e)
		}
		for _, text := range []string{"", "\x00", "a", strings.Repeat("a", 65)} {
			checkCeil(t, x, nil, text)
		}
		checkAll(t, x, order, nil)
	}
}

// P4.1: no tree of another order.
func TestNewOfNoOrder(t *testing.T) {
	for _, order := range []int{1, 17, 0, -1, -2, -16, 18, 32, 258, 1 << 32, 1<<32 + 2, math.MinInt, math.MinInt + 2, math.MaxInt} {
		if x, e := tree.New(order); x != nil || e != api.ErrSize {
			t.Errorf("New(%d) answers %v %v", order, x, e)
		}
	}
}

// P4.1: keys and values of all lengths that may be, and any bytes.
func TestEdges(t *testing.T) {
	values := []string{"", "v", "\x00", "\xff\xff", strings.Repeat("w", 255), strings.Repeat("\xff", 256), strings.Repeat("\x00", 256)}
	for _, order := range orders() {
		x, model := made(t, order), map[string]string{}
		for i, k := range append(edgeKeys(), edgeKeys()...) {
			mustPut(t, x, model, k, values[i%len(values)])
			checkAll(t, x, order, model)
		}
		for b := range 256 {
			mustPut(t, x, model, string([]byte{byte(b)}), strings.Repeat("z", b))
		}
		checkAll(t, x, order, model)
		for _, k := range edgeKeys() {
			mustDelete(t, x, model, k)
			if v, e := x.Get(k); v != "" || e != api.ErrNone {
				t.Fatalf("Get(%q) behind its Delete answers %q %v", k, v, e)
			}
			mustDelete(t, x, model, k)
			checkAll(t, x, order, model)
		}
	}
}

// P4.1: a key that is put again has the new value, and the old one is told.
func TestPutAgain(t *testing.T) {
	for _, order := range orders() {
		x, model := made(t, order), map[string]string{}
		for _, k := range numbered(100) {
			mustPut(t, x, model, k, "")
			mustPut(t, x, model, k, "one "+k)
		}
		for _, value := range []string{"two", "two", "", "three"} {
			for _, k := range numbered(100) {
				mustPut(t, x, model, k, value)
			}
			checkAll(t, x, order, model)
		}
	}
}

// P4.1, R1: what may not be is told, the first error first, and nothing turns.
func TestWrong(t *testing.T) {
	noKeys := []string{"", strings.Repeat("a", 65), strings.Repeat("\x00", 65), strings.Repeat("k", 66), strings.Repeat("\xff", 1<<16)}
	noValues := []string{strings.Repeat("v", 257), strings.Repeat("\x00", 512), strings.Repeat("v", 1<<20)}
	for _, order := range orders() {
		for _, size := range []int{0, 1, 40} {
			x, model := made(t, order), map[string]string{}
			for _, k := range numbered(size) {
				mustPut(t, x, model, k, "of "+k)
			}
			shape := x.Shape()
			for _, k := range noKeys {
				checkRefused(t, x, k, "v", api.ErrKey)
				checkRefused(t, x, k, noValues[0], api.ErrKey)
				if v, e := x.Get(k); v != "" || e != api.ErrKey {
					t.Errorf("Get of %d bytes answers %q %v", len(k), v, e)
				}
				if v, e := x.Delete(k); v != "" || e != api.ErrKey {
					t.Errorf("Delete of %d bytes answers %q %v", len(k), v, e)
				}
			}
			for _, v := range noValues {
				checkRefused(t, x, "k10000", v, api.ErrSize)
				checkRefused(t, x, "another", v, api.ErrSize)
			}
			for _, k := range []string{"k", "k1", "k1000", "k100000", "k1000\x00", "a", "z", strings.Repeat("k", 64)} {
				if v, e := x.Get(k); v != "" || e != api.ErrNone {
					t.Errorf("Get(%q) answers %q %v", k, v, e)
				}
				mustDelete(t, x, model, k)
			}
			checkAll(t, x, order, model)
			if now := x.Shape(); !slices.EqualFunc(now, shape, slices.Equal) {
				t.Errorf("order %d: calls that failed turned the shape %v to %v", order, shape, now)
			}
		}
	}
}

func checkRefused(t *testing.T, x *tree.Tree, key, value string, fault api.Errno) {
	t.Helper()
	if old, was, e := x.Put(key, value); old != "" || was || e != fault {
		t.Errorf("Put of %d and %d bytes answers %q %v %v, want %v", len(key), len(value), old, was, e, fault)
	}
}

// P4.1 to P4.3: keys put and deleted in many orders, in trees of every order, down to none.
func TestManyOrders(t *testing.T) {
	for _, order := range orders() {
		l := numbered(40 + 12*order)
		for how, puts := range rows(len(l)) {
			for back, deletes := range rows(len(l)) {
				x, model := made(t, order), map[string]string{}
				for _, i := range puts {
					mustPut(t, x, model, l[i], how+l[i])
					checkShape(t, x, order, len(model))
				}
				checkAll(t, x, order, model)
				for n, i := range deletes {
					mustDelete(t, x, model, l[i])
					checkShape(t, x, order, len(model))
					if n%16 == 0 {
						checkAll(t, x, order, model)
					}
				}
				if s := x.Shape(); len(s) != 1 || s[0][0] != 0 {
					t.Fatalf("order %d, put %s, deleted %s: of no keys %v", order, how, back, s)
				}
			}
		}
	}
}

// P4.1 and P4.3: few keys put in each order, and deleted in each order.
func TestEachOrderOfFew(t *testing.T) {
	const n = 5
	all := permutations(n)
	for _, order := range []int{2, 3} {
		for _, puts := range all {
			full, whole := made(t, order), map[string]string{}
			for _, i := range puts {
				mustPut(t, full, whole, string(rune('a'+i)), strconv.Itoa(i))
			}
			checkAll(t, full, order, whole)
			for _, deletes := range all {
				x, model := full.Copy(), maps.Clone(whole)
				for _, i := range deletes {
					mustDelete(t, x, model, string(rune('a'+i)))
					checkShape(t, x, order, len(model))
				}
			}
			checkAll(t, full, order, whole)
		}
	}
}

// permutations is each order of the numbers up to n.
func permutations(n int) [][]int {
	if n == 0 {
		return [][]int{nil}
	}
	var l [][]int
	for _, p := range permutations(n - 1) {
		for at := range n {
			l = append(l, slices.Insert(slices.Clone(p), at, n-1))
		}
	}
	return l
}

// P4.1 to P4.3: calls as they fall, of trees that grow, and go down again; each is held
// against a model that is no tree.
func TestCallsAsTheyFall(t *testing.T) {
	for _, order := range orders() {
		source := rand.New(rand.NewSource(int64(order)))
		names := append(edgeKeys(), numbered(60*order)...)
		x, model := made(t, order), map[string]string{}
		for turn := range 6000 {
			k := names[source.Intn(len(names))]
			puts := 8
			if turn/1000%2 == 1 {
				puts = 2
			}
			if source.Intn(10) < puts {
				mustPut(t, x, model, k, strings.Repeat("v", source.Intn(4))+strconv.Itoa(turn))
			} else {
				mustDelete(t, x, model, k)
			}
			checkShape(t, x, order, len(model))
			checkGet(t, x, model, names[source.Intn(len(names))])
			if turn%10 == 0 {
				checkCeil(t, x, model, names[source.Intn(len(names))]+strings.Repeat("\x00", source.Intn(2)))
			}
			if turn%250 == 0 {
				checkAll(t, x, order, model)
			}
		}
		for k := range maps.Clone(model) {
			mustDelete(t, x, model, k)
			checkShape(t, x, order, len(model))
		}
		checkAll(t, x, order, nil)
	}
}

func checkGet(t *testing.T, x *tree.Tree, model map[string]string, key string) {
	t.Helper()
	want, fault := model[key], api.OK
	if _, there := model[key]; !there {
		fault = api.ErrNone
	}
	if v, e := x.Get(key); v != want || e != fault {
		t.Fatalf("Get(%q) answers %q %v, want %q %v", key, v, e, want, fault)
	}
}

// P4.1: the last key is deleted, and keys come again.
func TestLastDeleted(t *testing.T) {
	for _, order := range orders() {
		x, model := made(t, order), map[string]string{}
		for round := range 3 {
			mustPut(t, x, model, "a", strconv.Itoa(round))
			mustDelete(t, x, model, "a")
			checkAll(t, x, order, nil)
			checkCeil(t, x, nil, "")
			for _, k := range numbered(70) {
				mustPut(t, x, model, k, k)
			}
			checkAll(t, x, order, model)
			for _, k := range numbered(70) {
				mustDelete(t, x, model, k)
			}
			checkAll(t, x, order, nil)
		}
	}
}

// P4.2: the first key that is a text, or behind it; any text may be asked for.
func TestCeil(t *testing.T) {
	for _, order := range orders() {
		x, model := made(t, order), map[string]string{}
		texts := []string{"", "k", "k1", "\xff", strings.Repeat("\xff", 64), strings.Repeat("\xff", 65), strings.Repeat("\x00", 65), strings.Repeat("a", 1<<16), strings.Repeat("k", 1<<16)}
		for _, k := range append(edgeKeys(), numbered(80)...) {
			texts = append(texts, k, k+"\x00", k+"\xff", k[:len(k)-1], k[:len(k)-1]+string([]byte{k[len(k)-1] - 1}))
		}
		for n, k := range append(edgeKeys(), numbered(80)...) {
			mustPut(t, x, model, k, "of "+k)
			checkCeil(t, x, model, texts[n*7%len(texts)])
		}
		for _, text := range texts {
			checkCeil(t, x, model, text)
		}
		for n, k := range append(numbered(80), edgeKeys()...) {
			mustDelete(t, x, model, k)
			checkCeil(t, x, model, k)
			checkCeil(t, x, model, "")
			checkCeil(t, x, model, texts[n*7%len(texts)])
		}
	}
}

// P4.2: samples of Ceil, written out.
func TestCeilSamples(t *testing.T) {
	x, model := made(t, 2), map[string]string{}
	for _, k := range []string{"b", "d", "dd", "f"} {
		mustPut(t, x, model, k, k+k)
	}
	for text, want := range map[string]string{"": "b", "a": "b", "b": "b", "b\x00": "d", "c": "d", "d": "d", "da": "dd", "dd": "dd", "de": "f", "f": "f"} {
		if k, v, e := x.Ceil(text); k != want || v != want+want || e != api.OK {
			t.Errorf("Ceil(%q) answers %q %q %v", text, k, v, e)
		}
	}
	for _, text := range []string{"f\x00", "g", "\xff", strings.Repeat("g", 1000)} {
		if k, v, e := x.Ceil(text); k != "" || v != "" || e != api.ErrNone {
			t.Errorf("Ceil(%q) answers %q %q %v", text, k, v, e)
		}
	}
}

// P4.2: the document's example.
func TestShapeExample(t *testing.T) {
	x, model := made(t, 2), map[string]string{}
	for _, k := range []string{"a", "b", "c"} {
		mustPut(t, x, model, k, "")
	}
	if s := x.Shape(); len(s) != 1 || !slices.Equal(s[0], []int{3}) {
		t.Errorf("of three keys Shape answers %v", s)
	}
	mustPut(t, x, model, "d", "")
	if s := x.Shape(); len(s) != 2 || !slices.Equal(s[0], []int{1}) || len(s[1]) != 2 || s[1][0]+s[1][1] != 3 {
		t.Errorf("of four keys Shape answers %v", s)
	}
}

// P4.2: each order is its own: one node has so many keys as it may, and no more.
func TestRootFills(t *testing.T) {
	for _, order := range orders() {
		x, model := made(t, order), map[string]string{}
		for n, k := range numbered(2 * order) {
			mustPut(t, x, model, k, "")
			s := x.Shape()
			switch {
			case n+1 > 2*order-1:
				if len(s) != 2 || s[0][0] != 1 {
					t.Errorf("order %d: of %d keys Shape answers %v", order, n+1, s)
				}
			case n+1 < 2*order-1: // two levels have that many at least
				if len(s) != 1 || s[0][0] != n+1 {
					t.Errorf("order %d: of %d keys Shape answers %v", order, n+1, s)
				}
			}
		}
	}
}

// R2: what Shape answers is the caller's, and no two of its lists share anything.
func TestShapeIsNew(t *testing.T) {
	x, model := made(t, 2), map[string]string{}
	for _, k := range numbered(50) {
		mustPut(t, x, model, k, "")
	}
	first, second := x.Shape(), x.Shape()
	for i := range first {
		first[i] = append(first[i], -1, -2, -3)
		clear(first[i])
	}
	first = append(first[:1], first...)
	if now := x.Shape(); !slices.EqualFunc(now, second, slices.Equal) || len(first) != len(second)+1 {
		t.Errorf("Shape turns with what was answered: %v, want %v", now, second)
	}
	third := x.Shape()
	_ = append(third[0], -1, -2, -3)
	if !slices.EqualFunc(third, second, slices.Equal) {
		t.Errorf("a level turns with another one: %v, want %v", third, second)
	}
}

// P4.2: All tells the keys as they were when it was called, however the tree turned since,
// ahead of the loop or in it, and tells them again.
func TestAllAsItWas(t *testing.T) {
	for _, order := range orders() {
		x, model := made(t, order), map[string]string{}
		var was []iter.Seq2[string, string]
		var want [][][2]string
		source := rand.New(rand.NewSource(int64(order)))
		for turn := range 600 {
			if turn%20 == 0 {
				was = append(was, x.All())
				want = append(want, sorted(model))
			}
			k := "k" + strconv.Itoa(source.Intn(150))
			if source.Intn(3) > 0 != (turn > 400) {
				mustPut(t, x, model, k, strconv.Itoa(turn))
			} else {
				mustDelete(t, x, model, k)
			}
		}
		for range 2 {
			for i, all := range was {
				if l := pairs(all); !slices.Equal(l, want[i]) {
					t.Fatalf("order %d: All, called at %d, tells %q, want %q", order, i*20, l, want[i])
				}
			}
		}
	}
}

// P4.2: All when the tree turns in the loop over it.
func TestAllTurnedInTheLoop(t *testing.T) {
	for _, order := range orders() {
		x, model := made(t, order), map[string]string{}
		for _, k := range numbered(200) {
			mustPut(t, x, model, k, "first")
		}
		want := sorted(model)
		var got [][2]string
		for k, v := range x.All() {
			got = append(got, [2]string{k, v})
			mustDelete(t, x, model, k)
			mustPut(t, x, model, k+"x", "second")
			mustPut(t, x, model, "k10199", "third")
			mustDelete(t, x, model, "k10100")
		}
		if !slices.Equal(got, want) {
			t.Fatalf("order %d: All tells %q, want %q", order, got, want)
		}
		checkAll(t, x, order, model)
	}
}

// P4.2: a loop over All may end at any key: nothing is told behind that, nor turned.
func TestAllEndsEarly(t *testing.T) {
	for _, order := range orders() {
		x, model := made(t, order), map[string]string{}
		for _, k := range numbered(90) {
			mustPut(t, x, model, k, "of "+k)
		}
		want := sorted(model)
		all := x.All()
		for most := 1; most <= len(want); most++ {
			var got [][2]string
			all(func(k, v string) bool {
				got = append(got, [2]string{k, v})
				return len(got) < most
			})
			if !slices.Equal(got, want[:most]) {
				t.Fatalf("order %d: up to the end at %d All tells %q", order, most, got)
			}
		}
		checkAll(t, x, order, model)
	}
}

// P4.2: two loops over one All, one within the other.
func TestAllWithinAll(t *testing.T) {
	x, model := made(t, 2), map[string]string{}
	for _, k := range numbered(30) {
		mustPut(t, x, model, k, "")
	}
	all, n := x.All(), 0
	for a := range all {
		for b := range all {
			if b > a {
				break
			}
			n++
		}
	}
	if n != 30*31/2 {
		t.Errorf("two loops tell %d pairs", n)
	}
}

// P4.2: a copy has the same keys, values and shape, and goes its own way.
func TestCopy(t *testing.T) {
	for _, order := range orders() {
		for _, size := range []int{0, 1, 2, 7, 31, 200} {
			x, model := made(t, order), map[string]string{}
			for _, k := range numbered(size) {
				mustPut(t, x, model, k, "of "+k)
			}
			c, copied := x.Copy(), maps.Clone(model)
			if c == nil || c == x || !slices.EqualFunc(c.Shape(), x.Shape(), slices.Equal) {
				t.Fatalf("order %d: Copy of %d keys answers another shape, or no tree of its own", order, size)
			}
			checkAll(t, c, order, copied)
			goOwnWays(t, order, x, c, model, copied)
		}
	}
}

// goOwnWays turns two trees and the copies of them, in turn, which must not touch each other.
func goOwnWays(t *testing.T, order int, x, c *tree.Tree, model, copied map[string]string) {
	t.Helper()
	for i, k := range numbered(120) {
		mustDelete(t, x, model, k)
		mustPut(t, c, copied, k, "otherwise "+k)
		mustPut(t, x, model, strconv.Itoa(i)+"x", "x")
		mustPut(t, c, copied, strconv.Itoa(i)+"c", "c")
		if i%30 != 0 {
			continue
		}
		again, third := c.Copy(), maps.Clone(copied)
		mustDelete(t, again, third, k)
		mustPut(t, again, third, "one more", k)
		checkAll(t, x, order, model)
		checkAll(t, c, order, copied)
		checkAll(t, again, order, third)
	}
	checkAll(t, x, order, model)
	checkAll(t, c, order, copied)
}

// P4.2: many copies, made as the tree turns, all stay what they were.
func TestManyCopies(t *testing.T) {
	for _, order := range orders() {
		source := rand.New(rand.NewSource(int64(order) + 99))
		trees, models := []*tree.Tree{made(t, order)}, []map[string]string{{}}
		for turn := range 3000 {
			i := source.Intn(len(trees))
			if turn%100 == 0 {
				trees, models = append(trees, trees[i].Copy()), append(models, maps.Clone(models[i]))
			}
			k := "k" + strconv.Itoa(source.Intn(90))
			if source.Intn(5) > 1 {
				mustPut(t, trees[i], models[i], k, strconv.Itoa(turn))
			} else {
				mustDelete(t, trees[i], models[i], k)
			}
		}
		for i, x := range trees {
			checkAll(t, x, order, models[i])
		}
	}
}

// P4.2, R1: a nil tree answers as the document says, ahead of all other errors.
func TestNil(t *testing.T) {
	var x *tree.Tree
	for _, k := range []string{"", "a", strings.Repeat("a", 65)} {
		checkRefused(t, x, k, "v", api.ErrNil)
		checkRefused(t, x, k, strings.Repeat("v", 257), api.ErrNil)
		if v, e := x.Get(k); v != "" || e != api.ErrNil {
			t.Errorf("Get of nil answers %q %v", v, e)
		}
		if v, e := x.Delete(k); v != "" || e != api.ErrNil {
			t.Errorf("Delete of nil answers %q %v", v, e)
		}
		if k, v, e := x.Ceil(k); k != "" || v != "" || e != api.ErrNil {
			t.Errorf("Ceil of nil answers %q %q %v", k, v, e)
		}
	}
	if n := x.Len(); n != 0 {
		t.Errorf("Len of nil answers %d", n)
	}
	if s := x.Shape(); len(s) != 0 {
		t.Errorf("Shape of nil answers %v", s)
	}
	if c := x.Copy(); c != nil {
		t.Errorf("Copy of nil answers %v", c)
	}
	all := x.All()
	if all == nil {
		t.Fatal("All of nil answers nil")
	}
	if l := pairs(all); len(l) != 0 {
		t.Errorf("All of nil tells %q", l)
	}
}

// P4.3: levels grow by the logarithm of many keys, put in order or mixed.
func TestLevelsOfMany(t *testing.T) {
	const n = 30000
	l := numbered(n)
	for _, order := range []int{2, 3, 8, 16} {
		for _, how := range []string{"up", "down", "mixed"} {
			x := made(t, order)
			row := rows(n)[how]
			for i, at := range row {
				x.Put(l[at], "")
				if i%1000 == 0 {
					checkShape(t, x, order, i+1)
				}
			}
			checkShape(t, x, order, n)
			for i, at := range row[:n-100] {
				x.Delete(l[at])
				if i%1000 == 0 {
					checkShape(t, x, order, n-1-i)
				}
			}
			checkShape(t, x, order, 100)
		}
	}
}

// R3: the same calls come to the same shape.
func TestSameCallsSameShape(t *testing.T) {
	for _, order := range orders() {
		var shapes [2][][]int
		for i := range shapes {
			x := made(t, order)
			for turn, at := range rand.New(rand.NewSource(7)).Perm(300) {
				x.Put(numbered(300)[at], "")
				if turn%3 == 0 {
					x.Delete(numbered(300)[at/2])
				}
			}
			shapes[i] = x.Shape()
		}
		if !slices.EqualFunc(shapes[0], shapes[1], slices.Equal) {
			t.Errorf("order %d: %v and %v", order, shapes[0], shapes[1])
		}
	}
}
