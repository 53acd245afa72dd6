package table_test

import (
	"cmp"
	"maps"
	"math"
	"math/rand"
	"slices"
	"strconv"
	"strings"
	"testing"

	"breviary/api"
	"breviary/table"
)

const least, greatest = math.MinInt, math.MaxInt

// compare is the order of two texts: byte by byte, the beginning of another one ahead of it.
func compare(a, b string) int {
	for i := range len(a) {
		switch {
		case i == len(b) || a[i] > b[i]:
			return 1
		case a[i] < b[i]:
			return -1
		}
	}
	if len(a) < len(b) {
		return -1
	}
	return 0
}

// model is what a table should have.
type model map[string]api.Row

// keys is a model's keys, in order.
func (m model) keys() []string { return slices.SortedFunc(maps.Keys(m), compare) }

// find is what Find should tell: all rows are looked at, one by one.
func (m model) find(col, lo, hi, most int) []string {
	var l []string
	for key, r := range m {
		if lo <= r[col] && r[col] <= hi {
			l = append(l, key)
		}
	}
	slices.SortFunc(l, func(a, b string) int {
		return cmp.Or(cmp.Compare(m[a][col], m[b][col]), compare(a, b))
	})
	return l[:min(most, len(l))]
}

// line is a key, and its row.
type line struct {
	key string
	row api.Row
}

// lines is all that a table's All tells.
func lines(x *table.Table) []line {
	var l []line
	for key, r := range x.All() {
		l = append(l, line{key, r})
	}
	return l
}

// lines is what All should tell.
func (m model) lines() []line {
	var l []line
	for _, key := range m.keys() {
		l = append(l, line{key, m[key]})
	}
	return l
}

// made is a table of so many rows at most.
func made(t *testing.T, most, order int) *table.Table {
	t.Helper()
	x, e := table.New(most, order)
	if x == nil || e != api.OK {
		t.Fatalf("New(%d, %d) answers a table: %v, and %v", most, order, x != nil, e)
	}
	return x
}

// sample is a table of a few rows, some of which have the same value in a column, and its model.
func sample(t *testing.T) (*table.Table, model) {
	t.Helper()
	x, m := made(t, 9, 2), model{}
	put(t, x, m, "a", api.Row{5, 1, 0, least})
	put(t, x, m, "b", api.Row{3, 1, 0, greatest})
	put(t, x, m, "c", api.Row{5, 1, -1, 0})
	put(t, x, m, "d", api.Row{-4, 1, 1, 0})
	return x, m
}

// wantCheck holds Check against true.
func wantCheck(t *testing.T, x *table.Table) {
	t.Helper()
	if !x.Check() {
		t.Fatalf("Check is false, of the rows %v", lines(x))
	}
}

// put puts a row into a table that takes it, and its model, which tells what Put should answer.
func put(t *testing.T, x *table.Table, m model, key string, r api.Row) {
	t.Helper()
	want, there := m[key]
	if old, was, e := x.Put(key, r); old != want || was != there || e != api.OK {
		t.Fatalf("Put(%q, %v) answers %v %v %v, want %v %v", key, r, old, was, e, want, there)
	}
	m[key] = r
	wantCheck(t, x)
}

// drop deletes a key that a table has, and its model.
func drop(t *testing.T, x *table.Table, m model, key string) {
	t.Helper()
	if r, e := x.Delete(key); r != m[key] || e != api.OK {
		t.Fatalf("Delete(%q) answers %v %v, want %v", key, r, e, m[key])
	}
	delete(m, key)
	wantCheck(t, x)
}

// filled is a table that has as many rows as it may, of keys from "k0" on, put in another
// order than theirs. Only behind the last one Check is asked: of many rows it takes long.
func filled(t *testing.T, most, order int) (*table.Table, model) {
	t.Helper()
	x, m := made(t, most, order), model{}
	for i := range most {
		key, r := "k"+strconv.Itoa(i*389%most), api.Row{i % 7, i, -i, i * i}
		m[key] = r
		if old, was, e := x.Put(key, r); old != (api.Row{}) || was || e != api.OK {
			t.Fatalf("Put(%q, %v) of %d rows answers %v %v %v", key, r, i, old, was, e)
		}
	}
	wantCheck(t, x)
	return x, m
}

// wantNoPut, wantNoDelete, wantNoGet and wantNoFind hold calls against an error, and nothing beside it.
func wantNoPut(t *testing.T, x *table.Table, key string, r api.Row, fault api.Errno) {
	t.Helper()
	if old, was, e := x.Put(key, r); old != (api.Row{}) || was || e != fault {
		t.Errorf("Put(%.20q, %v) answers %v %v %v, want %v", key, r, old, was, e, fault)
	}
}

func wantNoDelete(t *testing.T, x *table.Table, key string, fault api.Errno) {
	t.Helper()
	if r, e := x.Delete(key); r != (api.Row{}) || e != fault {
		t.Errorf("Delete(%.20q) answers %v %v, want %v", key, r, e, fault)
	}
}

func wantNoGet(t *testing.T, x *table.Table, key string, fault api.Errno) {
	t.Helper()
	if r, e := x.Get(key); r != (api.Row{}) || e != fault {
		t.Errorf("Get(%.20q) answers %v %v, want %v", key, r, e, fault)
	}
}

func wantNoFind(t *testing.T, x *table.Table, col, lo, hi, most int, fault api.Errno) {
	t.Helper()
	if l, e := x.Find(col, lo, hi, most); len(l) != 0 || e != fault {
		t.Errorf("Find(%d, %d, %d, %d) answers %q %v, want %v", col, lo, hi, most, l, e, fault)
	}
}

// wantFind holds Find against keys.
func wantFind(t *testing.T, x *table.Table, col, lo, hi, most int, want []string) {
	t.Helper()
	if l, e := x.Find(col, lo, hi, most); !slices.Equal(l, want) || e != api.OK {
		t.Fatalf("Find(%d, %d, %d, %d) answers %q %v, want %q", col, lo, hi, most, l, e, want)
	}
}

// wantFound holds Find against keys that are told apart by blanks.
func wantFound(t *testing.T, x *table.Table, col, lo, hi, most int, want string) {
	t.Helper()
	wantFind(t, x, col, lo, hi, most, strings.Fields(want))
}

// wantAll holds all that a table tells of its rows against a model.
func wantAll(t *testing.T, x *table.Table, m model) {
	t.Helper()
	if n := x.Len(); n != len(m) {
		t.Fatalf("Len answers %d, want %d", n, len(m))
	}
	if l, want := lines(x), m.lines(); !slices.Equal(l, want) {
		t.Fatalf("All tells %v, want %v", l, want)
	}
	for key, want := range m {
		if r, e := x.Get(key); r != want || e != api.OK {
			t.Fatalf("Get(%q) answers %v %v, want %v", key, r, e, want)
		}
	}
	for col := range api.Cols {
		wantFind(t, x, col, least, greatest, greatest, m.find(col, least, greatest, greatest))
	}
	wantCheck(t, x)
}

// noKeys is texts that are no keys.
func noKeys() []string {
	return []string{
		"", strings.Repeat("a", 17), strings.Repeat("\x00", 17), strings.Repeat("\xff", 24), strings.Repeat("b", 64),
		strings.Repeat("b", 65), strings.Repeat("a", 1<<20), "abcdefghijklmnopq", strings.Repeat("ä", 9),
	}
}

// edgeKeys is keys of 1 and of 16 bytes, of any bytes, and some that begin others.
func edgeKeys() []string {
	l := []string{
		"a", "a\x00", "a\x00\x00", "a\x01", "aa", "ab", "a\x7f", "a\x80", "a\xff", "b", "\xc3\xa4", "\x00\x00", "\x00\xff", "\xff\x00",
		"0", "-1", "#", "\n", " ", "\x80\x00\x00\x00\x00\x00\x00\x01", "\x80\x00\x00\x00\x00\x00\x00\x01a", strings.Repeat("a", 15) + "\x00",
	}
	for _, b := range []string{"\x00", "\x01", "c", "\x7f", "\x80", "\xff"} {
		for _, n := range []int{1, 8, 15, 16} {
			l = append(l, strings.Repeat(b, n))
		}
	}
	return l
}

// edgeNumbers is numbers beside which something turns in the bytes of rows or of entries.
func edgeNumbers() []int {
	l := []int{least, least + 1, greatest - 1, greatest, 0, 1, -1, 2, -2, 5, -7, 1000, -1000}
	for _, n := range []int{6, 7, 8, 13, 16, 32, 48, 56, 62} {
		l = append(l, 1<<n-1, 1<<n, 1<<n+1, -1<<n-1, -1<<n, -1<<n+1)
	}
	return l
}

// orders is every order that a tree may have.
func orders() []int {
	var l []int
	for order := 2; order <= 16; order++ {
		l = append(l, order)
	}
	return l
}

// P7.2: the document's example.
func TestExample(t *testing.T) {
	x, m := made(t, 9, 2), model{}
	put(t, x, m, "a", api.Row{5, 0, 0, 0})
	put(t, x, m, "b", api.Row{3, 0, 0, 0})
	put(t, x, m, "c", api.Row{5, 0, 0, 0})
	wantFound(t, x, 0, 4, 9, 9, "a c")
	wantFound(t, x, 0, 0, 9, 2, "b a")
}

// P7.1: which numbers of rows and which orders may be.
func TestNew(t *testing.T) {
	mosts := map[int]bool{
		least: false, -1024: false, -1: false, 0: false, 1: true, 2: true, 100: true, 1023: true, 1024: true,
		1025: false, 1 << 16: false, 1<<32 + 1: false, greatest: false,
	}
	trees := map[int]bool{
		least: false, -2: false, -1: false, 0: false, 1: false, 2: true, 3: true, 15: true, 16: true,
		17: false, 32: false, 1<<32 + 2: false, greatest: false,
	}
	for most, may := range mosts {
		for order, mayToo := range trees {
			x, e := table.New(most, order)
			if !may || !mayToo {
				if x != nil || e != api.ErrSize {
					t.Errorf("New(%d, %d) answers a table: %v, and %v, want none, and %v", most, order, x != nil, e, api.ErrSize)
				}
				continue
			}
			if x == nil || e != api.OK {
				t.Fatalf("New(%d, %d) answers a table: %v, and %v", most, order, x != nil, e)
			}
			if n := x.Most(); n != most {
				t.Errorf("of New(%d, %d) Most answers %d", most, order, n)
			}
			wantAll(t, x, model{})
		}
	}
}

// P7.1: tables that were made have nothing of one another.
func TestNewIsItsOwn(t *testing.T) {
	x, m := made(t, 1, 2), model{}
	y, n := made(t, 1, 2), model{}
	put(t, x, m, "a", api.Row{1, 2, 3, 4})
	wantAll(t, y, n)
	put(t, y, n, "b", api.Row{5, 6, 7, 8})
	wantAll(t, x, m)
	wantAll(t, y, n)
}

// P7.1 and P7.3: a key's row is put, put again with other values, got, deleted, and put once more.
func TestPutGetDelete(t *testing.T) {
	x, m := made(t, 9, 2), model{}
	put(t, x, m, "b", api.Row{1, 2, 3, 4})
	put(t, x, m, "a", api.Row{4, 3, 2, 1})
	wantAll(t, x, m)
	put(t, x, m, "b", api.Row{1, -2, 3, 40})
	wantAll(t, x, m)
	wantFound(t, x, 1, 2, 2, 9, "")
	wantFound(t, x, 1, -2, -2, 9, "b")
	wantFound(t, x, 3, 4, 4, 9, "")
	wantFound(t, x, 0, 1, 4, 9, "b a")
	put(t, x, m, "b", api.Row{1, -2, 3, 40})
	wantAll(t, x, m)
	drop(t, x, m, "b")
	wantAll(t, x, m)
	wantFound(t, x, 0, 1, 4, 9, "a")
	wantNoGet(t, x, "b", api.ErrNone)
	wantNoDelete(t, x, "b", api.ErrNone)
	put(t, x, m, "b", api.Row{})
	wantAll(t, x, m)
	drop(t, x, m, "a")
	drop(t, x, m, "b")
	wantAll(t, x, m)
}

// P7.1 and P7.3: a row whose columns change places is found by those that it has now.
func TestPutTurnsColumns(t *testing.T) {
	x, m := made(t, 1, 2), model{}
	for _, r := range []api.Row{{1, 2, 3, 4}, {4, 3, 2, 1}, {2, 1, 4, 3}, {1, 1, 1, 1}, {2, 2, 2, 2}, {}, {least, greatest, least, greatest}, {greatest, least, greatest, least}} {
		put(t, x, m, "a", r)
		wantAll(t, x, m)
		for col := range api.Cols {
			wantFound(t, x, col, r[col], r[col], 9, "a")
			for n := range 5 {
				wantFind(t, x, col, n, n, 9, m.find(col, n, n, 9))
			}
		}
	}
}

// P7.1: each key of from 1 to 16 bytes, of any ones, has a row of its own.
func TestEdgeKeys(t *testing.T) {
	for _, order := range orders() {
		x, m := made(t, api.MaxRows, order), model{}
		for i, key := range edgeKeys() {
			wantNoGet(t, x, key, api.ErrNone)
			wantNoDelete(t, x, key, api.ErrNone)
			put(t, x, m, key, api.Row{i % 3, -i, 7, i * i})
		}
		wantAll(t, x, m)
		for col := range api.Cols {
			for n := -3; n < 10; n++ {
				wantFind(t, x, col, n, n, greatest, m.find(col, n, n, greatest))
			}
		}
		for i, key := range edgeKeys() {
			if i%2 == 0 {
				drop(t, x, m, key)
				wantNoGet(t, x, key, api.ErrNone)
			}
		}
		wantAll(t, x, m)
	}
}

// P7.1: of what is no key ErrKey, also of a full table, and of one without rows; nothing is turned.
func TestNoKey(t *testing.T) {
	full, m := made(t, 2, 2), model{}
	put(t, full, m, "a", api.Row{1, 2, 3, 4})
	put(t, full, m, strings.Repeat("a", 16), api.Row{5, 6, 7, 8})
	for x, m := range map[*table.Table]model{full: m, made(t, 1, 2): {}, made(t, 1024, 16): {}} {
		for _, key := range noKeys() {
			wantNoPut(t, x, key, api.Row{}, api.ErrKey)
			wantNoPut(t, x, key, api.Row{1, 2, 3, 4}, api.ErrKey)
			wantNoDelete(t, x, key, api.ErrKey)
			wantNoGet(t, x, key, api.ErrKey)
		}
		wantAll(t, x, m)
	}
}

// P7.1: of a key that is not there ErrNone, though others begin it, or begin with it; nothing is turned.
func TestKeyNotThere(t *testing.T) {
	x, m := sample(t)
	put(t, x, m, "mm", api.Row{})
	for _, key := range []string{"m", "mmm", "mm\x00", "A", "e", "\x00", "\xff", strings.Repeat("m", 16), "a\x00", "0"} {
		wantNoGet(t, x, key, api.ErrNone)
		wantNoDelete(t, x, key, api.ErrNone)
	}
	wantAll(t, x, m)
}

// P7.1: a full table takes other rows of keys that are there, and no more; behind a Delete one more.
func TestPutFull(t *testing.T) {
	for _, most := range []int{1, 2, 5, 31, 1024} {
		x, m := filled(t, most, 2)
		last := "k" + strconv.Itoa(most-1)
		for _, key := range []string{"a", "k", "z", last + "0"} {
			wantNoPut(t, x, key, api.Row{1, 2, 3, 4}, api.ErrFull)
			wantNoGet(t, x, key, api.ErrNone)
		}
		wantAll(t, x, m)
		put(t, x, m, last, api.Row{1, 2, 3, 4})
		put(t, x, m, "k0", api.Row{4, 3, 2, 1})
		wantNoPut(t, x, "a", api.Row{1, 2, 3, 4}, api.ErrFull)
		wantNoDelete(t, x, "a", api.ErrNone)
		wantNoPut(t, x, "a", api.Row{1, 2, 3, 4}, api.ErrFull)
		drop(t, x, m, "k0")
		put(t, x, m, "a", api.Row{1, 2, 3, 4})
		wantNoPut(t, x, "k0", api.Row{}, api.ErrFull)
		wantAll(t, x, m)
		if n := x.Most(); n != most {
			t.Errorf("Most answers %d, want %d", n, most)
		}
	}
}

// P7.2: Find of each column alone, of ranges written out.
func TestFindSamples(t *testing.T) {
	x, _ := sample(t)
	for _, c := range []struct {
		col, lo, hi int
		want        string
	}{
		{0, -4, 5, "d b a c"}, {0, least, greatest, "d b a c"}, {0, -3, 4, "b"}, {0, 3, 5, "b a c"}, {0, -4, 3, "d b"},
		{0, 5, 5, "a c"}, {0, 3, 3, "b"}, {0, 4, 4, ""}, {0, 6, greatest, ""}, {0, least, -5, ""}, {0, 5, greatest, "a c"}, {0, least, -4, "d"},
		{1, 1, 1, "a b c d"}, {1, 0, 2, "a b c d"}, {1, 0, 0, ""}, {1, 2, 2, ""}, {1, -1, 0, ""}, {1, 2, 3, ""},
		{2, -1, 1, "c a b d"}, {2, -1, 0, "c a b"}, {2, 0, 1, "a b d"}, {2, 0, 0, "a b"},
		{3, least, greatest, "a c d b"}, {3, least, least, "a"}, {3, greatest, greatest, "b"}, {3, least, 0, "a c d"},
		{3, 0, greatest, "c d b"}, {3, least + 1, greatest - 1, "c d"}, {3, least, greatest - 1, "a c d"}, {3, least + 1, greatest, "c d b"},
		{3, greatest - 1, greatest, "b"}, {3, least, least + 1, "a"}, {3, -1, -1, ""}, {3, 1, greatest - 1, ""},
	} {
		wantFound(t, x, c.col, c.lo, c.hi, 9, c.want)
		wantFound(t, x, c.col, c.lo, c.hi, greatest, c.want)
	}
}

// P7.2: Find tells the first most keys: none, fewer than there are, as many, or all of them.
func TestFindMost(t *testing.T) {
	x, _ := sample(t)
	for most, want := range map[int]string{0: "", 1: "d", 2: "d b", 3: "d b a", 4: "d b a c", 5: "d b a c", 1024: "d b a c", greatest: "d b a c"} {
		wantFound(t, x, 0, least, greatest, most, want)
	}
	for most, want := range map[int]string{0: "", 1: "a", 2: "a c", 3: "a c", greatest: "a c"} {
		wantFound(t, x, 0, 5, 5, most, want)
		wantFound(t, x, 0, 4, greatest, most, want)
	}
	for _, most := range []int{0, 1, greatest} {
		wantFound(t, x, 0, 4, 4, most, "")
		wantFound(t, made(t, 1, 2), 0, least, greatest, most, "")
	}
}

// P7.2: of a column or a range that may not be ErrRange, also of a most below 0, of which ErrSize else.
func TestFindErrors(t *testing.T) {
	full, _ := sample(t)
	for _, x := range []*table.Table{full, made(t, 1, 2)} {
		for _, most := range []int{0, 1, 9, greatest, -1, least} {
			for _, col := range []int{-1, 4, 5, 1 << 32, -1 << 32, least, greatest} {
				wantNoFind(t, x, col, 0, 9, most, api.ErrRange)
				wantNoFind(t, x, col, 9, 0, most, api.ErrRange)
			}
			for col := range api.Cols {
				for _, c := range [][2]int{{1, 0}, {5, 3}, {0, -1}, {greatest, least}, {greatest, greatest - 1}, {least + 1, least}, {0, least}, {greatest, -1}} {
					wantNoFind(t, x, col, c[0], c[1], most, api.ErrRange)
				}
			}
		}
		for _, most := range []int{-1, -2, -1024, least} {
			for col := range api.Cols {
				wantNoFind(t, x, col, 0, 0, most, api.ErrSize)
				wantNoFind(t, x, col, 0, 9, most, api.ErrSize)
				wantNoFind(t, x, col, least, greatest, most, api.ErrSize)
			}
		}
	}
}

// P7.2: rows with the same values are told by keys, byte by byte, in each column.
func TestFindSameValues(t *testing.T) {
	for _, r := range []api.Row{{}, {7, 7, 7, 7}, {least, -1, 0, greatest}} {
		x, m := made(t, api.MaxRows, 3), model{}
		for _, key := range edgeKeys() {
			put(t, x, m, key, r)
		}
		for col := range api.Cols {
			for _, most := range []int{0, 1, 7, len(m) - 1, len(m), len(m) + 1, greatest} {
				wantFind(t, x, col, r[col], r[col], most, m.keys()[:min(most, len(m))])
			}
		}
	}
}

// P7.2 and P7.3: Find of every range between edges of numbers, of every column, over rows that have such.
func TestFindEdgeNumbers(t *testing.T) {
	numbers := edgeNumbers()
	x, m := made(t, api.MaxRows, 4), model{}
	for i := range 3 * len(numbers) {
		n := func(step int) int { return numbers[(i*step+i/len(numbers))%len(numbers)] }
		put(t, x, m, "k"+strconv.Itoa(i), api.Row{n(1), n(2), n(5), n(7)})
	}
	wantAll(t, x, m)
	for i, lo := range numbers {
		for _, hi := range numbers {
			col := i % api.Cols
			if lo > hi {
				wantNoFind(t, x, col, lo, hi, 9, api.ErrRange)
				continue
			}
			for _, most := range []int{3, greatest} {
				wantFind(t, x, col, lo, hi, most, m.find(col, lo, hi, most))
			}
		}
	}
}

// P7.1 and P7.2: of a nil table each call answers ErrNil, ahead of all else, nothing, 0, nil, or false.
func TestNilTable(t *testing.T) {
	var x *table.Table
	for _, key := range append(noKeys(), "a", strings.Repeat("a", 16)) {
		wantNoPut(t, x, key, api.Row{1, 2, 3, 4}, api.ErrNil)
		wantNoDelete(t, x, key, api.ErrNil)
		wantNoGet(t, x, key, api.ErrNil)
	}
	for _, col := range []int{-1, 0, 3, 4} {
		for _, most := range []int{-1, 0, 1, greatest} {
			wantNoFind(t, x, col, 0, 9, most, api.ErrNil)
			wantNoFind(t, x, col, 9, 0, most, api.ErrNil)
		}
	}
	if x.Len() != 0 || x.Most() != 0 || x.Check() || x.Copy() != nil {
		t.Errorf("Len, Most, Check, and whether Copy is one answer %d %d %v %v", x.Len(), x.Most(), x.Check(), x.Copy() != nil)
	}
	all := x.All()
	if all == nil {
		t.Fatal("All answers a nil function")
	}
	for key, r := range all {
		t.Errorf("All tells %q %v", key, r)
	}
}

// P7.2: Same, both ways: of the same rows, whatever the tables' orders, mosts, and ways there.
func TestSame(t *testing.T) {
	var none *table.Table
	empty, other, emptied := made(t, 1, 2), made(t, 1024, 16), made(t, 3, 3)
	put(t, emptied, model{}, "a", api.Row{1, 2, 3, 4})
	drop(t, emptied, model{"a": {1, 2, 3, 4}}, "a")
	first, _ := sample(t)
	second, m := made(t, 1024, 9), model{}
	for _, l := range slices.Backward(lines(first)) {
		put(t, second, m, l.key, api.Row{})
		put(t, second, m, l.key, l.row)
	}
	for _, group := range [][]*table.Table{{none, nil, empty, other, emptied, none.Copy(), empty.Copy()}, {first, second, first.Copy(), second.Copy()}} {
		for _, a := range group {
			for _, b := range group {
				wantSame(t, a, b, true)
			}
		}
		for _, a := range []*table.Table{none, empty, emptied} {
			wantSame(t, a, group[0], group[0] == none)
		}
	}
}

// wantSame holds Same, both ways, against what it should tell.
func wantSame(t *testing.T, a, b *table.Table, want bool) {
	t.Helper()
	if is, back := table.Same(a, b), table.Same(b, a); is != want || back != want {
		t.Errorf("Same of %v and %v answers %v, the other way round %v, want %v", lines(a), lines(b), is, back, want)
	}
}

// P7.2: Same of tables that differ by a row more, by a key, or by a value of a column.
func TestNotSame(t *testing.T) {
	x, m := sample(t)
	for _, key := range m.keys() {
		for col := range api.Cols {
			y, r := x.Copy(), m[key]
			r[col] ^= 1
			put(t, y, maps.Clone(m), key, r)
			wantSame(t, x, y, false)
			put(t, y, model{key: r}, key, m[key])
			wantSame(t, x, y, true)
		}
		y := x.Copy()
		drop(t, y, maps.Clone(m), key)
		wantSame(t, x, y, false)
		put(t, y, model{}, key+"\x00", m[key])
		wantSame(t, x, y, false)
	}
	y := x.Copy()
	put(t, y, model{}, "e", api.Row{})
	wantSame(t, x, y, false)
	drop(t, y, model{"e": {}}, "e")
	wantSame(t, x, y, true)
	wantAll(t, x, m)
}

// P7.2: a row of noughts is not the same as none.
func TestNotSameOfNoughts(t *testing.T) {
	x, y := made(t, 2, 2), made(t, 2, 2)
	put(t, x, model{}, "a", api.Row{})
	wantSame(t, x, y, false)
	put(t, y, model{}, "b", api.Row{})
	wantSame(t, x, y, false)
	put(t, x, model{}, "b", api.Row{})
	put(t, y, model{}, "a", api.Row{})
	wantSame(t, x, y, true)
}

// P7.2: All tells all rows as they are when it is asked for, whatever turns ahead of the loop, and within it.
func TestAllWhileTurned(t *testing.T) {
	for _, order := range orders() {
		x, m := made(t, api.MaxRows, order), model{}
		for i := range 60 {
			put(t, x, m, "k"+strconv.Itoa(i), api.Row{i, -i, i % 4, 9})
		}
		want, all := m.lines(), x.All()
		put(t, x, m, "k5", api.Row{})
		drop(t, x, m, "k6")
		put(t, x, m, "k", api.Row{1, 1, 1, 1})
		var l []line
		for key, r := range all {
			l = append(l, line{key, r})
			switch _, is := m[key]; {
			case len(l)%3 == 0 && is:
				drop(t, x, m, key)
			case len(l)%3 == 1:
				put(t, x, m, key, api.Row{len(l), 0, 0, 0})
			default:
				put(t, x, m, key+"x", api.Row{0, len(l), 0, 0})
			}
		}
		if !slices.Equal(l, want) {
			t.Fatalf("All tells %v, want %v", l, want)
		}
		l = nil
		for key, r := range all {
			l = append(l, line{key, r})
		}
		if !slices.Equal(l, want) {
			t.Fatalf("gone through once more, All tells %v, want %v", l, want)
		}
		wantAll(t, x, m)
	}
}

// P7.2: who goes through All may leave it wherever he likes, and go through two at once.
func TestAllLeft(t *testing.T) {
	x, m := sample(t)
	want := m.lines()
	for n := range len(want) + 1 {
		var l []line
		for key, r := range x.All() {
			if len(l) == n {
				break
			}
			l = append(l, line{key, r})
		}
		if !slices.Equal(l, want[:n]) {
			t.Errorf("left behind %d, All tells %v", n, l)
		}
	}
	pairs, all := 0, x.All()
	for a, r := range all {
		for b, s := range all {
			if m[a] != r || m[b] != s {
				t.Errorf("All tells %q %v, and %q %v", a, r, b, s)
			}
			pairs++
		}
	}
	if pairs != len(m)*len(m) {
		t.Errorf("two at once tell %d pairs of %d rows", pairs, len(m))
	}
	wantAll(t, x, m)
}

// P7.2: a copy is the same, and goes its own way; so does what it was made of.
func TestCopy(t *testing.T) {
	for _, order := range orders() {
		x, m := made(t, 40, order), model{}
		for i := range 30 {
			put(t, x, m, "k"+strconv.Itoa(i*7%30), api.Row{i, -i, i % 4, 9})
		}
		y, n := x.Copy(), maps.Clone(m)
		if y == x || y.Most() != 40 {
			t.Fatalf("Copy answers the table itself: %v, with Most %d", y == x, y.Most())
		}
		wantAll(t, y, n)
		wantSame(t, x, y, true)
		for i := range 20 {
			put(t, x, m, "k"+strconv.Itoa(i), api.Row{-1, -1, -1, i})
			drop(t, y, n, "k"+strconv.Itoa(29-i))
			put(t, y, n, "y"+strconv.Itoa(i), api.Row{i, 1, 2, 3})
			wantAll(t, x, m)
			wantAll(t, y, n)
		}
		for _, key := range m.keys() {
			drop(t, x, m, key)
		}
		wantAll(t, x, m)
		wantAll(t, y, n)
		wantSame(t, x, y, false)
	}
}

// P7.1 and P7.2: a copy takes as many rows as the first table, and is full on its own.
func TestCopyFull(t *testing.T) {
	x, m := made(t, 2, 2), model{}
	put(t, x, m, "a", api.Row{1, 2, 3, 4})
	y, n := x.Copy(), maps.Clone(m)
	put(t, x, m, "b", api.Row{})
	wantNoPut(t, x, "c", api.Row{}, api.ErrFull)
	put(t, y, n, "c", api.Row{5, 5, 5, 5})
	wantNoPut(t, y, "b", api.Row{}, api.ErrFull)
	drop(t, x, m, "b")
	wantNoPut(t, y, "b", api.Row{}, api.ErrFull)
	wantAll(t, x, m)
	wantAll(t, y, n)
}

// R2: what is answered is the caller's: it turns with nothing, and nothing with it.
func TestAnswersAreNew(t *testing.T) {
	x, m := sample(t)
	first, _ := x.Find(0, least, greatest, 3)
	second, _ := x.Find(0, least, greatest, 3)
	want := slices.Clone(second)
	_ = append(first[:1], "x", "y")
	clear(first[:1])
	if !slices.Equal(second, want) {
		t.Errorf("what was answered turned to %q, want %q", second, want)
	}
	drop(t, x, m, "d")
	if !slices.Equal(second, want) {
		t.Errorf("what was answered turned to %q, want %q", second, want)
	}
	r := api.Row{1, 2, 3, 4}
	put(t, x, m, "a", r)
	got, _ := x.Get("a")
	r[0], got[1] = 9, 9
	wantAll(t, x, m)
	bytes := []byte("zz")
	key := string(bytes)
	put(t, x, m, key, r)
	bytes[0] = 'y'
	wantAll(t, x, m)
}

// anyRow is a row with values that are often those of other rows.
func anyRow(source *rand.Rand, numbers []int) api.Row {
	n := func(most int) int { return numbers[source.Intn(most)] }
	return api.Row{n(2), n(5), n(len(numbers)), n(len(numbers))}
}

// wantSomeFinds holds a few Finds, of any ranges and mosts, against rows looked at one by one.
func wantSomeFinds(t *testing.T, source *rand.Rand, numbers []int, x *table.Table, m model) {
	t.Helper()
	for range 3 {
		col, lo, hi := source.Intn(api.Cols), numbers[source.Intn(len(numbers))], numbers[source.Intn(len(numbers))]
		lo, hi = min(lo, hi), max(lo, hi)
		most := source.Intn(len(m) + 2)
		wantFind(t, x, col, lo, hi, most, m.find(col, lo, hi, most))
	}
}

// anyCall is any call that may turn a table, held against what its model tells.
func anyCall(t *testing.T, source *rand.Rand, numbers []int, x *table.Table, m model) {
	t.Helper()
	key, r := "k"+strconv.Itoa(source.Intn(x.Most()*3/2+2)), anyRow(source, numbers)
	_, is := m[key]
	switch kind := source.Intn(8); {
	case kind == 0:
		wantNoPut(t, x, strings.Repeat(key, 9)[:17*source.Intn(2)], r, api.ErrKey)
	case kind < 4 && is:
		drop(t, x, m, key)
	case kind < 4:
		wantNoDelete(t, x, key, api.ErrNone)
		wantNoGet(t, x, key, api.ErrNone)
	case !is && len(m) == x.Most():
		wantNoPut(t, x, key, r, api.ErrFull)
	default:
		put(t, x, m, key, r)
		if now, e := x.Get(key); now != r || e != api.OK {
			t.Fatalf("behind Put(%q, %v) Get answers %v %v", key, r, now, e)
		}
	}
}

// P7.1 to P7.3: after whatever calls, of tables of every order, all is told as the rows are,
// looked at one by one; and a copy made on the way stays as it was.
func TestAnyCalls(t *testing.T) {
	numbers := append([]int{0, 1, -1, 2, 7}, edgeNumbers()...)
	for _, order := range orders() {
		for _, most := range []int{1, 3, 40} {
			source := rand.New(rand.NewSource(int64(order*100 + most)))
			x, m := made(t, most, order), model{}
			y, n := x.Copy(), maps.Clone(m)
			for i := range 300 {
				anyCall(t, source, numbers, x, m)
				wantCheck(t, x)
				wantSomeFinds(t, source, numbers, x, m)
				if i%50 == 0 {
					wantAll(t, x, m)
					wantAll(t, y, n)
					wantSame(t, x, y, slices.Equal(m.lines(), n.lines()))
					y, n = x.Copy(), maps.Clone(m)
				}
			}
			wantAll(t, x, m)
		}
	}
}

// P7.1 to P7.3: as many rows as may be at all, put in one order, turned, and deleted in another one.
func TestMostRows(t *testing.T) {
	for _, order := range []int{2, 3, 16} {
		x, m := filled(t, api.MaxRows, order)
		wantAll(t, x, m)
		wantNoPut(t, x, "one more", api.Row{}, api.ErrFull)
		for i := range 5 {
			wantFind(t, x, 0, i, i+1, 200, m.find(0, i, i+1, 200))
			wantFind(t, x, 1, i*100, i*190, greatest, m.find(1, i*100, i*190, greatest))
		}
		for i := range api.MaxRows {
			key := "k" + strconv.Itoa(i*5%api.MaxRows)
			if i%3 == 0 {
				r := api.Row{1, 2, 3, i}
				x.Put(key, r)
				m[key] = r
				continue
			}
			x.Delete(key)
			delete(m, key)
		}
		wantAll(t, x, m)
	}
}
