package cursor_test

import (
	"maps"
	"math"
	"math/rand"
	"slices"
	"strconv"
	"strings"
	"testing"

	"breviary/api"
	"breviary/cursor"
	"breviary/tree"
)

// compare is the order of two texts: byte by byte, the beginning of another one ahead of it.
func compare(a, b string) int {
	for i := range len(a) {
		switch {
		case i == len(b) || a[i] > b[i]:
			return 1
		case a[i] < b[i]:
			return -1
		}
	}
	if len(a) < len(b) {
		return -1
	}
	return 0
}

// within tells whether a key is of a range.
func within(key, lo, hi string) bool {
	return compare(key, lo) >= 0 && (hi == "" || compare(key, hi) < 0)
}

// ranged is a model's pairs of a range, in order.
func ranged(model map[string]string, lo, hi string) [][2]string {
	var l [][2]string
	for k, v := range model {
		if within(k, lo, hi) {
			l = append(l, [2]string{k, v})
		}
	}
	slices.SortFunc(l, func(a, b [2]string) int { return compare(a[0], b[0]) })
	return l
}

// spot is where a cursor should stand: at a text of its range, or right behind it.
type spot struct {
	lo, hi, text string
	behind       bool
}

// next is what Next should tell of a model: all of its keys are looked at, one by one.
func (s *spot) next(model map[string]string) (key, value string, is bool) {
	for k, v := range model {
		order := compare(k, s.text)
		if order < 0 || order == 0 && s.behind || !within(k, s.lo, s.hi) {
			continue
		}
		if !is || compare(k, key) < 0 {
			key, value, is = k, v, true
		}
	}
	if is {
		s.text, s.behind = key, true
	}
	return key, value, is
}

// seek is what Seek should answer.
func (s *spot) seek(key string) api.Errno {
	if compare(key, s.lo) < 0 || s.hi != "" && compare(key, s.hi) > 0 {
		return api.ErrOrder
	}
	s.text, s.behind = key, false
	return api.OK
}

// orders is every order that a tree may have.
func orders() []int {
	var l []int
	for order := 2; order <= 16; order++ {
		l = append(l, order)
	}
	return l
}

// numbered is n keys in order.
func numbered(n int) []string {
	var l []string
	for i := range n {
		l = append(l, "k"+strconv.Itoa(10000+i))
	}
	return l
}

// edgeKeys is keys of 1 and of 64 bytes, of any bytes, and some that begin others.
func edgeKeys() []string {
	l := []string{
		"\x00", "\x00\x00", "\x00\x01", "\x01", "a", "a\x00", "a\x00\x00", "a\x00b", "a\x01", "aa", "ab", "a\x7f", "a\x80",
		"a\xff", "b", "\x7f", "\x80", "\xc3\xa4", "\xfe\xff", "\xff", "\xff\x00", "\xff\xff", "\n", "0", "-1",
		strings.Repeat("a", 63) + "b", strings.Repeat("a", 63) + "\x00",
	}
	for _, b := range []string{"\x00", "a", "\xff"} {
		for _, n := range []int{16, 63, 64} {
			l = append(l, strings.Repeat(b, n))
		}
	}
	return l
}

// edgeTexts is those keys, texts that are none, and texts that lie beside keys.
func edgeTexts() []string {
	l := []string{"", "k", "zz", strings.Repeat("\x00", 65), strings.Repeat("a", 64) + "\x00", strings.Repeat("a", 65), strings.Repeat("a", 1<<16), strings.Repeat("\xff", 65), strings.Repeat("\xff", 1<<16)}
	for _, k := range edgeKeys() {
		l = append(l, k, k+"\x00", k+"\xff")
	}
	slices.Sort(l)
	return slices.Compact(l)
}

// made is a tree of an order, with keys, and a model of it.
func made(t *testing.T, order int, keys ...string) (*tree.Tree, map[string]string) {
	t.Helper()
	x, e := tree.New(order)
	if e != api.OK {
		t.Fatalf("tree.New(%d) answers %v", order, e)
	}
	model := map[string]string{}
	for i, k := range keys {
		put(t, x, model, k, "v"+strconv.Itoa(i))
	}
	return x, model
}

// put puts a key into a tree, and its model.
func put(t *testing.T, x *tree.Tree, model map[string]string, key, value string) {
	t.Helper()
	if _, _, e := x.Put(key, value); e != api.OK {
		t.Fatalf("tree's Put(%q, %q) answers %v", key, value, e)
	}
	model[key] = value
}

// drop deletes a key from a tree, where it is there, and its model.
func drop(x *tree.Tree, model map[string]string, key string) {
	x.Delete(key)
	delete(model, key)
}

// begun is a cursor at the beginning of a range that may be.
func begun(t *testing.T, x *tree.Tree, lo, hi string) *cursor.Cursor {
	t.Helper()
	c, e := cursor.New(x, lo, hi)
	if c == nil || e != api.OK {
		t.Fatalf("New(%q, %q) answers a cursor: %v, and %v", lo, hi, c != nil, e)
	}
	return c
}

// told is all that a cursor tells up to where it tells nothing; no more than most.
func told(c *cursor.Cursor, most int) [][2]string {
	var l [][2]string
	for k, v, is := c.Next(); is && len(l) <= most; k, v, is = c.Next() {
		l = append(l, [2]string{k, v})
	}
	return l
}

// wantNext holds one Next against a key and a value.
func wantNext(t *testing.T, c *cursor.Cursor, key, value string) {
	t.Helper()
	if k, v, is := c.Next(); k != key || v != value || !is {
		t.Fatalf("Next answers %q %q %v, want %q %q", k, v, is, key, value)
	}
}

// wantNone holds one Next, and another one, against nothing.
func wantNone(t *testing.T, c *cursor.Cursor) {
	t.Helper()
	for range 2 {
		if k, v, is := c.Next(); k != "" || v != "" || is {
			t.Fatalf("Next answers %q %q %v, want nothing", k, v, is)
		}
	}
}

// wantSeek holds one Seek against an error.
func wantSeek(t *testing.T, c *cursor.Cursor, key string, fault api.Errno) {
	t.Helper()
	if e := c.Seek(key); e != fault {
		t.Fatalf("Seek(%q) answers %v, want %v", key, e, fault)
	}
}

// wantScan holds Scan against pairs.
func wantScan(t *testing.T, x *tree.Tree, lo, hi string, most int, want [][2]string) {
	t.Helper()
	if l, e := cursor.Scan(x, lo, hi, most); !slices.Equal(l, want) || e != api.OK {
		t.Fatalf("Scan(%q, %q, %d) answers %q %v, want %q", lo, hi, most, l, e, want)
	}
}

// wantRange holds all that a cursor tells of a range, and Scan, against pairs.
func wantRange(t *testing.T, x *tree.Tree, lo, hi string, want [][2]string) {
	t.Helper()
	c := begun(t, x, lo, hi)
	if l := told(c, len(want)); !slices.Equal(l, want) {
		t.Fatalf("from %q to %q are told %q, want %q", lo, hi, l, want)
	}
	wantNone(t, c)
	wantScan(t, x, lo, hi, math.MaxInt, want)
}

// P5.1 and P5.2: the document's examples.
func TestExamples(t *testing.T) {
	x, _ := made(t, 2, "a", "b", "c")
	c := begun(t, x, "a", "c")
	wantNext(t, c, "a", "v0")
	wantNext(t, c, "b", "v1")
	wantNone(t, c)
	wantScan(t, x, "", "", 2, [][2]string{{"a", "v0"}, {"b", "v1"}})
}

// P5.1 and P5.2: no range whose end is ahead of its beginning; one whose end is it, or nothing, may be.
func TestOrderOfLoAndHi(t *testing.T) {
	x, _ := made(t, 2, "a", "b")
	long := strings.Repeat("a", 1<<16)
	for _, c := range []struct{ lo, hi string }{
		{"b", "a"}, {"aa", "a"}, {"a\x00", "a"}, {"\x80", "\x7f"}, {"\xff", "a"}, {"a\xff", "a\x7f"}, {"\x00\x00", "\x00"},
		{long, "a"}, {long, long[1:]}, {long + "b", long + "a"}, {"c", "b\xff"}, {"z", "y"},
	} {
		if got, e := cursor.New(x, c.lo, c.hi); got != nil || e != api.ErrOrder {
			t.Errorf("New answers a cursor: %v, and %v, want none, and %v", got != nil, e, api.ErrOrder)
		}
		for _, most := range []int{0, 1, -1, math.MaxInt, math.MinInt} {
			if l, e := cursor.Scan(x, c.lo, c.hi, most); len(l) != 0 || e != api.ErrOrder {
				t.Errorf("Scan of most %d answers %q %v, want none %v", most, l, e, api.ErrOrder)
			}
		}
		begun(t, x, c.hi, c.lo)
		begun(t, x, c.lo, c.lo)
		begun(t, x, c.lo, "")
	}
}

// P5.1 and P5.2: of a nil tree ErrNil, ahead of all else.
func TestNilTree(t *testing.T) {
	for _, lo := range []string{"", "a", "b", strings.Repeat("a", 65)} {
		for _, hi := range []string{"", "a", "b"} {
			if c, e := cursor.New(nil, lo, hi); c != nil || e != api.ErrNil {
				t.Errorf("New(nil, %q, %q) answers a cursor: %v, and %v", lo, hi, c != nil, e)
			}
			for _, most := range []int{0, 1, -1, math.MaxInt, math.MinInt} {
				if l, e := cursor.Scan(nil, lo, hi, most); len(l) != 0 || e != api.ErrNil {
					t.Errorf("Scan(nil, %q, %q, %d) answers %q %v", lo, hi, most, l, e)
				}
			}
		}
	}
}

// P5.1: of a nil cursor ErrNil, nothing, false.
func TestNilCursor(t *testing.T) {
	var c *cursor.Cursor
	wantNone(t, c)
	for _, key := range edgeTexts() {
		wantSeek(t, c, key, api.ErrNil)
	}
	wantNone(t, c)
}

// P5.1 to P5.3: a range tells just its keys, whatever texts it is of, and nothing behind them.
func TestRangesOfAnyTexts(t *testing.T) {
	for order, keys := range map[int][]string{2: edgeKeys(), 3: nil, 4: {"a"}, 16: edgeKeys()} {
		x, model := made(t, order, keys...)
		for _, lo := range edgeTexts() {
			for _, hi := range edgeTexts() {
				if hi != "" && compare(hi, lo) < 0 {
					continue
				}
				wantRange(t, x, lo, hi, ranged(model, lo, hi))
			}
		}
	}
}

// P5.1: ranges written out: their ends are keys or not, the same, or nothing.
func TestRangeSamples(t *testing.T) {
	x, _ := made(t, 2, "b", "d", "dd", "f", "h")
	for _, c := range []struct{ lo, hi, want string }{
		{"", "", "b d dd f h"}, {"b", "", "b d dd f h"}, {"b\x00", "", "d dd f h"}, {"h", "", "h"}, {"h\x00", "", ""}, {"z", "", ""},
		{"", "b", ""}, {"", "b\x00", "b"}, {"", "a", ""}, {"", "h", "b d dd f"}, {"", "z", "b d dd f h"},
		{"b", "d", "b"}, {"b", "d\x00", "b d"}, {"c", "e", "d dd"}, {"d", "dd", "d"}, {"d", "dd\x00", "d dd"}, {"da", "f", "dd"},
		{"d", "d", ""}, {"c", "c", ""}, {"c", "d", ""}, {"dd\x00", "f", ""}, {"e", "g", "f"}, {"f", "z", "f h"}, {"y", "z", ""},
		{strings.Repeat("d", 65), "h", "f"}, {"b", strings.Repeat("d", 65), "b d dd"}, {strings.Repeat("z", 99), strings.Repeat("z", 99), ""},
	} {
		var keys []string
		for _, pair := range told(begun(t, x, c.lo, c.hi), 5) {
			keys = append(keys, pair[0])
		}
		if got := strings.Join(keys, " "); got != c.want {
			t.Errorf("from %q to %q are told %q, want %q", c.lo, c.hi, got, c.want)
		}
	}
}

// P5.1 to P5.3: ranges in the midst of trees of every order, and of none, one and many keys.
func TestEveryOrder(t *testing.T) {
	for _, order := range orders() {
		for _, size := range []int{0, 1, 2*order - 1, 2 * order, 150} {
			keys := numbered(size)
			x, model := made(t, order, keys...)
			shape := x.Shape()
			ends := []string{"", "a", "k10000\x00", "k10030", "k10077x", "k10149", "k10150", "z"}
			for _, lo := range ends {
				for _, hi := range ends {
					if hi != "" && hi < lo {
						continue
					}
					wantRange(t, x, lo, hi, ranged(model, lo, hi))
				}
			}
			if now := x.Shape(); !slices.EqualFunc(now, shape, slices.Equal) || x.Len() != size {
				t.Errorf("order %d: reading turned the shape %v to %v", order, shape, now)
			}
		}
	}
}

// P5.1: Seek, from wherever a cursor stands, to any text: what may be, and what comes next.
func TestSeekToAnyText(t *testing.T) {
	texts := edgeTexts()
	for order, keys := range map[int][]string{2: edgeKeys(), 3: nil, 5: edgeKeys()} {
		x, model := made(t, order, keys...)
		for _, ends := range [][2]string{{"", ""}, {"a", ""}, {"", "a"}, {"a", "a"}, {"a", "a\xff"}, {"a\x00", "\xff"}, {strings.Repeat("a", 65), "\xff\x00"}, {"\xff", strings.Repeat("\xff", 65)}} {
			lo, hi := ends[0], ends[1]
			c, s := begun(t, x, lo, hi), &spot{lo: lo, hi: hi, text: lo}
			for i := range 3 * len(texts) {
				text := texts[i*31%len(texts)]
				wantSeek(t, c, text, s.seek(text))
				for range i % 3 {
					key, value, is := s.next(model)
					if k, v, was := c.Next(); k != key || v != value || was != is {
						t.Fatalf("behind Seek(%q), from %q to %q, Next answers %q %q %v, want %q %q %v", text, lo, hi, k, v, was, key, value, is)
					}
				}
			}
		}
	}
}

// P5.1: Seek ahead and back, to lo, to hi, to a key that was just told, and where it may not go.
func TestSeekSamples(t *testing.T) {
	x, model := made(t, 2, "a", "b", "d", "f", "h")
	c := begun(t, x, "b", "h")
	wantSeek(t, c, "d", api.OK)
	wantNext(t, c, "d", "v2")
	wantSeek(t, c, "d", api.OK)
	wantNext(t, c, "d", "v2")
	wantSeek(t, c, "d\x00", api.OK)
	wantNext(t, c, "f", "v3")
	wantNone(t, c)
	wantSeek(t, c, "b", api.OK)
	wantNext(t, c, "b", "v1")
	for _, key := range []string{"", "a", "a\xff\xff", "h\x00", "i", "ha", "\xff", strings.Repeat("h", 1000)} {
		wantSeek(t, c, key, api.ErrOrder)
	}
	wantNext(t, c, "d", "v2")
	wantSeek(t, c, "h", api.OK)
	wantNone(t, c)
	wantSeek(t, c, "g\xff", api.OK)
	wantNone(t, c)
	wantSeek(t, c, "i", api.ErrOrder)
	wantSeek(t, c, "c", api.OK)
	wantNext(t, c, "d", "v2")
	put(t, x, model, "c", "new")
	wantSeek(t, c, "c", api.OK)
	wantNext(t, c, "c", "new")
}

// P5.1: of a range without an end Seek may go anywhere behind its beginning.
func TestSeekWithoutEnd(t *testing.T) {
	x, _ := made(t, 2, "a", "b", "\xff")
	c := begun(t, x, "b", "")
	wantSeek(t, c, strings.Repeat("\xff", 1<<16), api.OK)
	wantNone(t, c)
	wantSeek(t, c, "a\xff", api.ErrOrder)
	wantSeek(t, c, "", api.ErrOrder)
	wantSeek(t, c, "c", api.OK)
	wantNext(t, c, "\xff", "v2")
	wantSeek(t, c, "b", api.OK)
	wantNext(t, c, "b", "v1")
	c = begun(t, x, "", "")
	wantNext(t, c, "a", "v0")
	wantSeek(t, c, "", api.OK)
	wantNext(t, c, "a", "v0")
}

// P5.1: a range of one place has no keys, and Seek may go to that place alone.
func TestSeekInRangeOfOnePlace(t *testing.T) {
	x, model := made(t, 3, "a", "b", "c")
	for _, at := range []string{"a", "b", "bb", "\xff", strings.Repeat("b", 65)} {
		c := begun(t, x, at, at)
		wantNone(t, c)
		wantSeek(t, c, at, api.OK)
		wantNone(t, c)
		wantSeek(t, c, at+"\x00", api.ErrOrder)
		wantSeek(t, c, "", api.ErrOrder)
		if len(at) == 1 {
			put(t, x, model, at, "new")
		}
		wantNone(t, c)
	}
}

// P5.1: behind the last key a cursor stays where it stands: a key that has come behind
// that since is told, one that has come ahead of that, or behind the range, is not.
func TestNextBehindTheLast(t *testing.T) {
	for _, order := range orders() {
		x, model := made(t, order)
		c := begun(t, x, "b", "x")
		wantNone(t, c)
		put(t, x, model, "a", "1")
		put(t, x, model, "x", "2")
		wantNone(t, c)
		put(t, x, model, "b", "3")
		wantNext(t, c, "b", "3")
		wantNone(t, c)
		put(t, x, model, "b", "4")
		wantNone(t, c)
		put(t, x, model, "m", "5")
		wantNext(t, c, "m", "5")
		wantNone(t, c)
		put(t, x, model, "l", "6")
		wantNone(t, c)
		put(t, x, model, "m\x00", "7")
		put(t, x, model, "w\xff", "8")
		wantNext(t, c, "m\x00", "7")
		wantNext(t, c, "w\xff", "8")
		wantNone(t, c)
		drop(x, model, "w\xff")
		wantNone(t, c)
		put(t, x, model, "w\xff", "9")
		wantNone(t, c)
		wantSeek(t, c, "x", api.OK)
		put(t, x, model, "w\xff\xff", "10")
		wantNone(t, c)
		wantSeek(t, c, "w\xff", api.OK)
		wantNext(t, c, "w\xff", "9")
		wantNext(t, c, "w\xff\xff", "10")
		wantNone(t, c)
	}
}

// P5.1: right behind a key is ahead of all that is behind it, of the longest key too.
func TestNextRightBehind(t *testing.T) {
	last := strings.Repeat("\xff", 64)
	long := strings.Repeat("a", 64)
	x, model := made(t, 2, long, last)
	c := begun(t, x, "", "")
	wantNext(t, c, long, "v0")
	put(t, x, model, strings.Repeat("a", 63)+"b", "b")
	put(t, x, model, long[1:], "ahead")
	wantNext(t, c, strings.Repeat("a", 63)+"b", "b")
	wantNext(t, c, last, "v1")
	wantNone(t, c)
	put(t, x, model, last[1:], "ahead")
	wantNone(t, c)
	wantSeek(t, c, long, api.OK)
	wantNext(t, c, long, "v0")
	wantSeek(t, c, long+"\x00", api.OK)
	wantNext(t, c, strings.Repeat("a", 63)+"b", "b")
}

// P5.1 and P5.3: what is put and deleted between two Nexts: the key where the cursor
// stands, those ahead of it and behind it, all of them.
func TestTurnedBetweenNexts(t *testing.T) {
	for _, order := range orders() {
		for name, c := range map[string]struct {
			put, drop []string
			want      string
		}{
			"nothing":                       {nil, nil, "k10020"},
			"the key it stands at, dropped": {nil, []string{"k10019"}, "k10020"},
			"the key it stands at, put":     {[]string{"k10019"}, nil, "k10020"},
			"the key it stands at, both":    {[]string{"k10019"}, []string{"k10019"}, "k10020"},
			"those told, dropped":           {nil, numbered(20), "k10020"},
			"one told before, put":          {[]string{"k100185", "k1001", "a"}, nil, "k10020"},
			"the next one, dropped":         {nil, []string{"k10020"}, "k10021"},
			"many next ones, dropped":       {nil, numbered(60)[20:], "k10060"},
			"right behind, put":             {[]string{"k10019\x00", "k100199", "k100190"}, nil, "k10019\x00"},
			"the next one again":            {[]string{"k10020"}, nil, "k10020"},
			"all behind, dropped":           {nil, numbered(99)[20:], ""},
			"all, dropped":                  {nil, numbered(99), ""},
			"all, but of another range":     {[]string{"k10070", "z"}, numbered(99), ""},
			"all, but one ahead":            {[]string{"k100185"}, numbered(99), ""},
			"all, but one behind":           {[]string{"k100455"}, numbered(99), "k100455"},
		} {
			x, model := made(t, order, numbered(99)...)
			cur := begun(t, x, "k10005", "k10070")
			for i := 5; i < 20; i++ {
				wantNext(t, cur, "k"+strconv.Itoa(10000+i), "v"+strconv.Itoa(i))
			}
			for _, k := range c.drop {
				drop(x, model, k)
			}
			for _, k := range c.put {
				put(t, x, model, k, "new")
			}
			k, v, is := cur.Next()
			if k != c.want || v != model[k] || is != (c.want != "") {
				t.Errorf("order %d, %s: Next answers %q %q %v, want %q %q", order, name, k, v, is, c.want, model[c.want])
			}
		}
	}
}

// P5.1: a key's value is the one that it has when it is told.
func TestValueOfNow(t *testing.T) {
	x, model := made(t, 2, "a", "b", "c")
	c := begun(t, x, "", "")
	wantNext(t, c, "a", "v0")
	put(t, x, model, "b", "turned")
	put(t, x, model, "a", "turned")
	wantNext(t, c, "b", "turned")
	wantSeek(t, c, "a", api.OK)
	put(t, x, model, "a", "")
	wantNext(t, c, "a", "")
	drop(x, model, "b")
	put(t, x, model, "b", strings.Repeat("w", 256))
	wantNext(t, c, "b", strings.Repeat("w", 256))
}

// P5.1: each key is dropped as it is told, as one that takes all out would do.
func TestDropAsTold(t *testing.T) {
	for _, order := range orders() {
		x, model := made(t, order, numbered(200)...)
		want := ranged(model, "k10050", "k10150")
		c := begun(t, x, "k10050", "k10150")
		for _, pair := range want {
			wantNext(t, c, pair[0], pair[1])
			drop(x, model, pair[0])
		}
		wantNone(t, c)
		wantScan(t, x, "", "", 200, ranged(model, "", ""))
	}
}

// P5.1: two cursors over one tree stand each where it stands; one over a copy sees the copy alone.
func TestTwoCursors(t *testing.T) {
	x, model := made(t, 2, "a", "b", "c", "d")
	first, second, ends := begun(t, x, "", ""), begun(t, x, "", ""), begun(t, x, "b", "d")
	copied := begun(t, x.Copy(), "", "")
	wantNext(t, first, "a", "v0")
	wantNext(t, first, "b", "v1")
	wantNext(t, second, "a", "v0")
	wantNext(t, ends, "b", "v1")
	wantSeek(t, first, "d", api.OK)
	wantNext(t, second, "b", "v1")
	drop(x, model, "c")
	put(t, x, model, "cc", "new")
	wantNext(t, ends, "cc", "new")
	wantNone(t, ends)
	wantNext(t, first, "d", "v3")
	wantNone(t, first)
	wantScan(t, x, "", "", 9, ranged(model, "", ""))
	wantNext(t, second, "cc", "new")
	wantNext(t, second, "d", "v3")
	wantNone(t, second)
	if l := told(copied, 4); !slices.Equal(l, [][2]string{{"a", "v0"}, {"b", "v1"}, {"c", "v2"}, {"d", "v3"}}) {
		t.Errorf("over the copy are told %q", l)
	}
}

// P5.1: calls as they fall, of several cursors over one tree that turns; each is held
// against where it should stand, and keys that are gone through one by one.
func TestCallsAsTheyFall(t *testing.T) {
	texts := append(edgeTexts(), numbered(30)...)
	keys := append(edgeKeys(), numbered(30)...)
	for _, order := range orders() {
		source := rand.New(rand.NewSource(int64(order)))
		x, model := made(t, order, keys...)
		var cursors []*cursor.Cursor
		var spots []*spot
		for turn := range 8000 {
			if turn%400 == 0 {
				lo, hi := texts[source.Intn(len(texts))], texts[source.Intn(len(texts))]
				if hi != "" && compare(hi, lo) < 0 {
					lo, hi = hi, lo
				}
				cursors, spots = append(cursors, begun(t, x, lo, hi)), append(spots, &spot{lo: lo, hi: hi, text: lo})
			}
			i := source.Intn(len(cursors))
			switch source.Intn(8) {
			case 0, 1:
				put(t, x, model, keys[source.Intn(len(keys))], strconv.Itoa(turn))
			case 2, 3:
				drop(x, model, keys[source.Intn(len(keys))])
			case 4:
				text := texts[source.Intn(len(texts))]
				wantSeek(t, cursors[i], text, spots[i].seek(text))
			default:
				key, value, is := spots[i].next(model)
				if k, v, was := cursors[i].Next(); k != key || v != value || was != is {
					t.Fatalf("order %d, call %d: Next answers %q %q %v, want %q %q %v", order, turn, k, v, was, key, value, is)
				}
			}
		}
	}
}

// P5.3: whatever is put and deleted meanwhile, what is told rises, is of the range, and
// what was there all the time is told.
func TestRisesWhateverTurns(t *testing.T) {
	for _, order := range orders() {
		for round := range 20 {
			source := rand.New(rand.NewSource(int64(order*100 + round)))
			all := numbered(300)
			x, model := made(t, order, all[:150+source.Intn(150)]...)
			lo, hi := all[source.Intn(100)], all[100+source.Intn(200)]
			stays := maps.Clone(model)
			c, last := begun(t, x, lo, hi), ""
			var keys []string
			for k, _, is := c.Next(); is; k, _, is = c.Next() {
				if k <= last || !within(k, lo, hi) {
					t.Fatalf("order %d: behind %q is told %q, from %q to %q", order, last, k, lo, hi)
				}
				last, keys = k, append(keys, k)
				for range source.Intn(6) {
					k := all[source.Intn(len(all))]
					if source.Intn(2) == 0 {
						put(t, x, model, k, "")
					} else {
						drop(x, model, k)
						delete(stays, k)
					}
				}
			}
			for k := range stays {
				if within(k, lo, hi) && !slices.Contains(keys, k) {
					t.Fatalf("order %d: %q, which was there all the time, is not told", order, k)
				}
			}
		}
	}
}

// P5.3: without changes all of a range is told, once, also behind Seeks back and ahead.
func TestTellsAllBetweenSeeks(t *testing.T) {
	for _, order := range orders() {
		x, model := made(t, order, numbered(120)...)
		const lo, hi = "k10010", "k10110"
		c := begun(t, x, lo, hi)
		for _, from := range []string{lo, "k10100", "k10050x", hi, lo, "k10109", "k10011", lo} {
			wantSeek(t, c, from, api.OK)
			if l, want := told(c, 100), ranged(model, from, hi); !slices.Equal(l, want) {
				t.Fatalf("order %d: behind Seek(%q) are told %q, want %q", order, from, l, want)
			}
			wantNone(t, c)
		}
	}
}

// P5.2: most of 0, of as many keys as there are, of one less and more, and of many more.
func TestScanMost(t *testing.T) {
	for _, order := range orders() {
		for _, size := range []int{0, 1, 5, 100} {
			x, model := made(t, order, numbered(size)...)
			for _, ends := range [][2]string{{"", ""}, {"k10001", "k10050"}, {"k10001x", "k10003x"}, {"k10002", "k10002"}, {"a", "b"}, {"k10099", ""}, {"z", ""}} {
				all := ranged(model, ends[0], ends[1])
				for _, most := range []int{0, 1, 2, 3, len(all) - 1, len(all), len(all) + 1, 1000, math.MaxInt32, math.MaxInt - 1, math.MaxInt} {
					if most >= 0 {
						wantScan(t, x, ends[0], ends[1], most, all[:min(most, len(all))])
					}
				}
			}
		}
	}
}

// P5.2: no most below 0, behind New's errors.
func TestScanWrongMost(t *testing.T) {
	x, _ := made(t, 2, "a", "b")
	empty, _ := made(t, 2)
	for _, most := range []int{-1, -2, -1 << 32, math.MinInt + 1, math.MinInt} {
		for _, y := range []*tree.Tree{x, empty} {
			for _, ends := range [][2]string{{"", ""}, {"a", "b"}, {"a", "a"}, {"z", ""}} {
				if l, e := cursor.Scan(y, ends[0], ends[1], most); len(l) != 0 || e != api.ErrSize {
					t.Errorf("Scan(%q, %q, %d) answers %q %v", ends[0], ends[1], most, l, e)
				}
			}
			if l, e := cursor.Scan(y, "b", "a", most); len(l) != 0 || e != api.ErrOrder {
				t.Errorf("Scan of a wrong range and most answers %q %v", l, e)
			}
		}
	}
}

// R2: what Scan answers is the caller's.
func TestScanIsNew(t *testing.T) {
	x, model := made(t, 2, "a", "b", "c")
	first, _ := cursor.Scan(x, "", "", 2)
	second, _ := cursor.Scan(x, "", "", 2)
	_ = append(first, [2]string{"y", "z"})
	clear(first)
	if want := ranged(model, "", "c"); !slices.Equal(second, want) {
		t.Errorf("what was answered turned to %q", second)
	}
	wantScan(t, x, "", "", 3, ranged(model, "", ""))
}

// P5.1 to P5.3: a range of many keys, and Seeks all over it.
func TestMany(t *testing.T) {
	const n = 20000
	keys := numbered(n)
	for _, order := range []int{2, 16} {
		x, _ := made(t, order, keys...)
		c := begun(t, x, keys[0], "")
		for i, k := range keys {
			wantNext(t, c, k, "v"+strconv.Itoa(i))
		}
		wantNone(t, c)
		for i := range n {
			at := i * 7919 % n
			wantSeek(t, c, keys[at], api.OK)
			wantNext(t, c, keys[at], "v"+strconv.Itoa(at))
		}
		l, e := cursor.Scan(x, keys[n/2], "", n)
		if len(l) != n-n/2 || l[0][0] != keys[n/2] || l[len(l)-1][0] != keys[n-1] || e != api.OK {
			t.Errorf("order %d: Scan of %d keys answers %d %v", order, n-n/2, len(l), e)
		}
	}
}
