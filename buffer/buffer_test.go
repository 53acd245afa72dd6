package buffer_test

import (
	"cmp"
	"maps"
	"math"
	"math/rand"
	"slices"
	"strconv"
	"strings"
	"testing"

	"breviary/api"
	"breviary/buffer"
	"breviary/table"
)

const least, greatest = math.MinInt, math.MaxInt

// compare is the order of two texts: byte by byte, the beginning of another one ahead of it.
func compare(a, b string) int {
	for i := range len(a) {
		switch {
		case i == len(b) || a[i] > b[i]:
			return 1
		case a[i] < b[i]:
			return -1
		}
	}
	if len(a) < len(b) {
		return -1
	}
	return 0
}

// model is rows by their keys.
type model map[string]api.Row

// keys is a model's keys, in order.
func (m model) keys() []string { return slices.SortedFunc(maps.Keys(m), compare) }

// find is what Find should tell of these rows: all are looked at, one by one.
func (m model) find(col, lo, hi, most int) []string {
	var l []string
	for key, r := range m {
		if lo <= r[col] && r[col] <= hi {
			l = append(l, key)
		}
	}
	slices.SortFunc(l, func(a, b string) int {
		return cmp.Or(cmp.Compare(m[a][col], m[b][col]), compare(a, b))
	})
	return l[:min(most, len(l))]
}

// rowsOf is all rows of a table.
func rowsOf(x *table.Table) model {
	m := model{}
	for key, r := range x.All() {
		m[key] = r
	}
	return m
}

// line is a key, and the row that was written, or that it was taken out.
type line struct {
	key string
	row api.Row
	out bool
}

// lines is all that Writes tells, as it is gone through.
func lines(b *buffer.Buffer) []line { return told(b.Writes()) }

func told(all func(func(string, *api.Row) bool)) []line {
	var l []line
	for key, r := range all {
		l = append(l, lineOf(key, r))
	}
	return l
}

func lineOf(key string, r *api.Row) line {
	if r == nil {
		return line{key: key, out: true}
	}
	return line{key: key, row: *r}
}

// pair is a table and a buffer over it, with what each of them should have.
type pair struct {
	*testing.T
	x      *table.Table
	b      *buffer.Buffer
	rows   model
	writes map[string]line
}

// over is a buffer over a table of these rows, and of so many at most.
func over(t *testing.T, most int, rows model) *pair {
	t.Helper()
	x, e := table.New(most, 2)
	if e != api.OK {
		t.Fatalf("table.New(%d, 2) answers %v", most, e)
	}
	for key, r := range rows {
		if _, _, e := x.Put(key, r); e != api.OK {
			t.Fatalf("the table does not take %q: %v", key, e)
		}
	}
	b, e := buffer.New(x)
	if b == nil || e != api.OK {
		t.Fatalf("New answers a buffer: %v, and %v", b != nil, e)
	}
	return &pair{t, x, b, maps.Clone(rows), map[string]line{}}
}

// samples is a few rows, some of which have the same value in a column.
func samples() model {
	return model{
		"a": {5, 1, 0, least},
		"b": {3, 1, 0, greatest},
		"c": {5, 1, -1, 0},
		"d": {-4, 1, 1, 0},
	}
}

// sample is a buffer over a table of a few rows.
func sample(t *testing.T) *pair {
	t.Helper()
	return over(t, 9, samples())
}

// shown is what the buffer should show.
func (p *pair) shown() model {
	m := maps.Clone(p.rows)
	for key, w := range p.writes {
		if w.out {
			delete(m, key)
			continue
		}
		m[key] = w.row
	}
	return m
}

// written is what Writes should tell.
func (p *pair) written() []line {
	return slices.SortedFunc(maps.Values(p.writes), func(a, b line) int { return compare(a.key, b.key) })
}

// put and drop write what the buffer should take.
func (p *pair) put(key string, r api.Row) {
	p.Helper()
	if e := p.b.Put(key, r); e != api.OK {
		p.Fatalf("Put(%q, %v) answers %v", key, r, e)
	}
	p.writes[strings.Clone(key)] = line{key: key, row: r}
}

func (p *pair) drop(key string) {
	p.Helper()
	if e := p.b.Delete(key); e != api.OK {
		p.Fatalf("Delete(%q) answers %v", key, e)
	}
	p.writes[strings.Clone(key)] = line{key: key, out: true}
}

// under and gone turn the table beneath the buffer.
func (p *pair) under(key string, r api.Row) {
	p.Helper()
	if _, _, e := p.x.Put(key, r); e != api.OK {
		p.Fatalf("the table does not take %q: %v", key, e)
	}
	p.rows[key] = r
}

func (p *pair) gone(key string) {
	p.Helper()
	if _, e := p.x.Delete(key); e != api.OK {
		p.Fatalf("the table has no %q: %v", key, e)
	}
	delete(p.rows, key)
}

// apply is an Apply that should do all writes, and forget them.
func (p *pair) apply() {
	p.Helper()
	if e := p.b.Apply(); e != api.OK {
		p.Fatalf("Apply answers %v", e)
	}
	p.rows, p.writes = p.shown(), map[string]line{}
	p.wantAll()
}

// forget is a Drop.
func (p *pair) forget() {
	p.b.Drop()
	p.writes = map[string]line{}
}

// wantNoPut, wantNoDelete, wantNoGet, wantNoFind and wantNoApply hold calls against an error, and nothing beside it.
func (p *pair) wantNoPut(key string, fault api.Errno) {
	p.Helper()
	if e := p.b.Put(key, api.Row{1, 2, 3, 4}); e != fault {
		p.Errorf("Put(%.20q) answers %v, want %v", key, e, fault)
	}
}

func (p *pair) wantNoDelete(key string, fault api.Errno) {
	p.Helper()
	if e := p.b.Delete(key); e != fault {
		p.Errorf("Delete(%.20q) answers %v, want %v", key, e, fault)
	}
}

func (p *pair) wantNoGet(key string, fault api.Errno) {
	p.Helper()
	if r, e := p.b.Get(key); r != (api.Row{}) || e != fault {
		p.Errorf("Get(%.20q) answers %v %v, want %v", key, r, e, fault)
	}
}

func (p *pair) wantNoFind(col, lo, hi, most int, fault api.Errno) {
	p.Helper()
	if l, e := p.b.Find(col, lo, hi, most); len(l) != 0 || e != fault {
		p.Errorf("Find(%d, %d, %d, %d) answers %q %v, want %v", col, lo, hi, most, l, e, fault)
	}
}

func (p *pair) wantNoApply(fault api.Errno) {
	p.Helper()
	if e := p.b.Apply(); e != fault {
		p.Errorf("Apply answers %v, want %v", e, fault)
	}
	p.wantAll()
}

// wantFind holds Find against keys.
func (p *pair) wantFind(col, lo, hi, most int, want []string) {
	p.Helper()
	if l, e := p.b.Find(col, lo, hi, most); !slices.Equal(l, want) || e != api.OK {
		p.Fatalf("Find(%d, %d, %d, %d) answers %q %v, want %q", col, lo, hi, most, l, e, want)
	}
}

// wantFound holds Find against keys that are told apart by blanks.
func (p *pair) wantFound(col, lo, hi, most int, want string) {
	p.Helper()
	p.wantFind(col, lo, hi, most, strings.Fields(want))
}

// wantWrites holds Writes against what was written.
func (p *pair) wantWrites() {
	p.Helper()
	if l, want := lines(p.b), p.written(); !slices.Equal(l, want) {
		p.Fatalf("Writes tells %v, want %v", l, want)
	}
}

// wantTable holds the table against the rows that it should have.
func (p *pair) wantTable() {
	p.Helper()
	if m := rowsOf(p.x); !maps.Equal(m, p.rows) {
		p.Fatalf("the table has %v, want %v", m, p.rows)
	}
	if !p.x.Check() {
		p.Fatalf("the table's indexes are not those of its rows %v", p.rows)
	}
}

// wantShown holds all that a buffer shows against what it should.
func (p *pair) wantShown() {
	p.Helper()
	m := p.shown()
	if n := p.b.Len(); n != len(m) {
		p.Fatalf("Len answers %d, want %d", n, len(m))
	}
	for key, want := range m {
		if r, e := p.b.Get(key); r != want || e != api.OK {
			p.Fatalf("Get(%q) answers %v %v, want %v", key, r, e, want)
		}
	}
	for key, w := range p.writes {
		if w.out {
			p.wantNoGet(key, api.ErrNone)
		}
	}
	for col := range api.Cols {
		p.wantFind(col, least, greatest, greatest, m.find(col, least, greatest, greatest))
	}
}

// wantAll holds what a buffer shows, what it tells of its writes, and its table against what they should be.
func (p *pair) wantAll() {
	p.Helper()
	p.wantTable()
	p.wantWrites()
	p.wantShown()
}

// noKeys is texts that are no keys.
func noKeys() []string {
	return []string{
		"", strings.Repeat("a", 17), strings.Repeat("\x00", 17), strings.Repeat("\xff", 24), strings.Repeat("b", 64),
		strings.Repeat("b", 65), strings.Repeat("a", 1<<20), "abcdefghijklmnopq", strings.Repeat("ä", 9),
	}
}

// edgeKeys is keys of 1 and of 16 bytes, of any bytes, and some that begin others.
func edgeKeys() []string {
	l := []string{
		"a", "a\x00", "a\x00\x00", "a\x01", "aa", "ab", "a\x7f", "a\x80", "a\xff", "b", "\xc3\xa4", "\x00\x00", "\x00\xff", "\xff\x00",
		"0", "-1", "#", "\n", " ", "\x80\x00\x00\x00\x00\x00\x00\x01", "\x80\x00\x00\x00\x00\x00\x00\x01a", strings.Repeat("a", 15) + "\x00",
	}
	for _, b := range []string{"\x00", "\x01", "c", "\x7f", "\x80", "\xff"} {
		for _, n := range []int{1, 8, 15, 16} {
			l = append(l, strings.Repeat(b, n))
		}
	}
	return l
}

// edgeNumbers is numbers beside which something turns in their order, or in their bytes.
func edgeNumbers() []int {
	l := []int{least, least + 1, greatest - 1, greatest, 0, 1, -1, 2, -2, 7}
	for _, n := range []int{7, 8, 32, 62} {
		l = append(l, 1<<n-1, 1<<n, -1<<n, -1<<n-1)
	}
	return l
}

// P8.1 and P8.2: the document's example.
func TestExample(t *testing.T) {
	p := over(t, 9, model{"a": {1, 2, 3, 4}})
	p.put("b", api.Row{5, 6, 7, 8})
	p.drop("a")
	if l, want := lines(p.b), []line{{key: "a", out: true}, {key: "b", row: api.Row{5, 6, 7, 8}}}; !slices.Equal(l, want) {
		t.Errorf("Writes tells %v, want %v", l, want)
	}
	if n := p.b.Len(); n != 1 {
		t.Errorf("Len answers %d, want 1", n)
	}
	if r, e := p.x.Get("a"); r != (api.Row{1, 2, 3, 4}) || e != api.OK || p.x.Len() != 1 {
		t.Errorf("the table has %v %v of a, and %d rows", r, e, p.x.Len())
	}
	p.apply()
	if r, e := p.x.Get("b"); r != (api.Row{5, 6, 7, 8}) || e != api.OK || p.x.Len() != 1 {
		t.Errorf("the table has %v %v of b, and %d rows", r, e, p.x.Len())
	}
}

// P8.1: no buffer of a nil table.
func TestNewOfNil(t *testing.T) {
	if b, e := buffer.New(nil); b != nil || e != api.ErrNil {
		t.Errorf("New(nil) answers a buffer: %v, and %v", b != nil, e)
	}
}

// P8.1: a buffer without writes shows just its table, of no rows, of some, and of as many as may be.
func TestNew(t *testing.T) {
	over(t, 1, model{}).wantAll()
	over(t, 1, model{"a": {1, 2, 3, 4}}).wantAll()
	over(t, api.MaxRows, samples()).wantAll()
}

// P8.1: a key's row is put over none, got, put again, taken out, and put once more, all of it in the buffer alone.
func TestPutOfNewKey(t *testing.T) {
	p := over(t, 9, model{"b": {9, 9, 9, 9}})
	for _, r := range []api.Row{{1, 2, 3, 4}, {1, -2, 3, 40}, {1, -2, 3, 40}, {}, {least, greatest, least, greatest}} {
		p.put("a", r)
		p.wantAll()
	}
	p.drop("a")
	p.wantAll()
	p.put("a", api.Row{4, 3, 2, 1})
	p.wantAll()
}

// P8.1: the same over a row that the table has.
func TestPutOverRow(t *testing.T) {
	p := sample(t)
	for _, key := range []string{"a", "b", "c", "d"} {
		for _, r := range []api.Row{{1, 2, 3, 4}, {5, 1, 0, least}, {}, p.rows[key]} {
			p.put(key, r)
			p.wantAll()
		}
		p.drop(key)
		p.wantAll()
		p.put(key, api.Row{8, 8, 8, 8})
		p.wantAll()
	}
}

// P8.1: keys of any bytes are written, each its own.
func TestEdgeKeys(t *testing.T) {
	p := over(t, api.MaxRows, model{})
	for i, key := range edgeKeys() {
		p.put(key, api.Row{i, -i, i / 3, 7})
		if i%3 == 0 {
			p.under(key, api.Row{7, i, i, i})
		}
	}
	p.wantAll()
	for i, key := range edgeKeys() {
		if i%2 == 0 {
			p.drop(key)
		}
	}
	p.wantAll()
	p.apply()
}

// P8.1: Delete of a key that only the table has, of one that only was written, and of one that both have.
func TestDelete(t *testing.T) {
	p := sample(t)
	p.put("x", api.Row{1, 2, 3, 4})
	p.put("b", api.Row{4, 3, 2, 1})
	for _, key := range []string{"a", "x", "b"} {
		p.drop(key)
		p.wantAll()
		p.wantNoDelete(key, api.ErrNone)
		p.wantNoGet(key, api.ErrNone)
		p.wantAll()
	}
	p.wantNoDelete("y", api.ErrNone)
	p.wantNoGet("y", api.ErrNone)
	p.wantAll()
	p.apply()
	p.wantNoDelete("a", api.ErrNone)
	p.wantAll()
}

// P8.1: what is no key is ErrKey, ahead of all else, and nothing is written.
func TestNoKeys(t *testing.T) {
	full := over(t, 1, model{"a": {1, 2, 3, 4}})
	both := over(t, 2, model{"a": {1, 2, 3, 4}})
	both.put("b", api.Row{5, 6, 7, 8})
	both.drop("a")
	for _, p := range []*pair{over(t, 1, model{}), full, sample(t), both} {
		for _, key := range noKeys() {
			p.wantNoPut(key, api.ErrKey)
			p.wantNoDelete(key, api.ErrKey)
			p.wantNoGet(key, api.ErrKey)
		}
		p.wantAll()
	}
}

// P8.1: where as many rows are shown as may be, no row comes in but for a key that is there, or behind a Delete.
func TestPutFull(t *testing.T) {
	p := over(t, 3, model{"a": {1, 1, 1, 1}, "b": {2, 2, 2, 2}})
	p.put("c", api.Row{3, 3, 3, 3})
	p.wantNoPut("d", api.ErrFull)
	p.wantAll()
	p.put("a", api.Row{4, 4, 4, 4})
	p.put("c", api.Row{5, 5, 5, 5})
	p.wantNoPut("d", api.ErrFull)
	p.wantAll()
	p.drop("b")
	p.put("d", api.Row{6, 6, 6, 6})
	p.wantNoPut("b", api.ErrFull)
	p.wantNoGet("b", api.ErrNone)
	p.wantAll()
	p.drop("d")
	p.put("b", api.Row{7, 7, 7, 7})
	p.wantNoPut("d", api.ErrFull)
	p.wantAll()
	p.apply()
	p.wantNoPut("d", api.ErrFull)
	p.wantAll()
}

// P8.1: a table that is full has its rows written over, and others in the place of those that are taken out.
func TestPutOverFullTable(t *testing.T) {
	p := over(t, 2, model{"a": {1, 1, 1, 1}, "b": {2, 2, 2, 2}})
	p.wantNoPut("c", api.ErrFull)
	p.put("a", api.Row{3, 3, 3, 3})
	p.wantNoPut("c", api.ErrFull)
	p.drop("a")
	p.put("c", api.Row{4, 4, 4, 4})
	p.wantNoPut("a", api.ErrFull)
	p.drop("b")
	p.put("a", api.Row{5, 5, 5, 5})
	p.wantNoPut("b", api.ErrFull)
	p.wantAll()
	p.apply()
}

// P8.1: where the table grew, so that more rows are shown than may be, none comes in, but those that are shown turn.
func TestPutBeyondMost(t *testing.T) {
	p := over(t, 2, model{})
	p.put("a", api.Row{1, 1, 1, 1})
	p.put("b", api.Row{2, 2, 2, 2})
	p.under("c", api.Row{3, 3, 3, 3})
	p.under("d", api.Row{4, 4, 4, 4})
	p.wantNoPut("e", api.ErrFull)
	p.put("a", api.Row{5, 5, 5, 5})
	p.put("c", api.Row{6, 6, 6, 6})
	p.wantAll()
	p.drop("a")
	p.wantNoPut("a", api.ErrFull)
	p.drop("c")
	p.wantNoPut("c", api.ErrFull)
	p.drop("d")
	p.put("c", api.Row{7, 7, 7, 7})
	p.wantNoPut("d", api.ErrFull)
	p.wantAll()
	p.apply()
}

// P8.1: as many rows as a table may have at all, all of them written.
func TestMostRows(t *testing.T) {
	p := over(t, api.MaxRows, model{})
	for i := range api.MaxRows {
		p.put("k"+strconv.Itoa(i*389%api.MaxRows), api.Row{i % 7, i, -i, i * i})
	}
	p.wantNoPut("one more", api.ErrFull)
	p.wantAll()
	p.apply()
	p.wantNoPut("one more", api.ErrFull)
	for i := range api.MaxRows {
		p.drop("k" + strconv.Itoa(i))
	}
	p.put("one more", api.Row{1, 2, 3, 4})
	p.wantFind(1, least, greatest, 1, []string{"one more"})
	p.wantAll()
	p.apply()
}

// P8.1: Find tells the table's rows and the written ones in one order, by values, then by keys.
func TestFind(t *testing.T) {
	p := sample(t)
	p.put("aa", api.Row{5, 0, 0, 1})
	p.put("bb", api.Row{4, 1, 0, 1})
	p.put("e", api.Row{-5, 1, 2, 1})
	p.put("z", api.Row{6, 1, -2, -1})
	for _, c := range []struct {
		col, lo, hi int
		want        string
	}{
		{0, least, greatest, "e d b bb a aa c z"}, {0, 4, 5, "bb a aa c"}, {0, 5, 5, "a aa c"}, {0, 4, 4, "bb"}, {0, 3, 4, "b bb"},
		{0, 7, greatest, ""}, {0, least, -6, ""}, {0, least, -5, "e"}, {0, 6, greatest, "z"}, {0, -4, 3, "d b"}, {0, 0, 2, ""},
		{1, 1, 1, "a b bb c d e z"}, {1, 0, 1, "aa a b bb c d e z"}, {1, 0, 0, "aa"},
		{2, 0, 0, "a aa b bb"}, {2, -2, 2, "z c a aa b bb d e"},
		{3, least, least, "a"}, {3, greatest, greatest, "b"}, {3, least, greatest, "a z c d aa bb e b"}, {3, -1, 1, "z c d aa bb e"},
	} {
		for _, most := range []int{8, 9, 1024, greatest} {
			p.wantFound(c.col, c.lo, c.hi, most, c.want)
		}
	}
	p.wantAll()
}

// P8.1: Find tells no row that was taken out, and one that was written over by the values that it has now.
func TestFindOver(t *testing.T) {
	p := sample(t)
	p.drop("a")
	p.wantFound(0, least, greatest, 9, "d b c")
	p.wantFound(0, 5, 5, 9, "c")
	p.put("d", api.Row{5, 7, 1, 0})
	p.wantFound(0, least, greatest, 9, "b c d")
	p.wantFound(0, 5, 5, 9, "c d")
	p.wantFound(0, -4, -4, 9, "")
	p.wantFound(1, 1, 1, 9, "b c")
	p.wantFound(1, 7, 7, 9, "d")
	p.wantFound(2, 1, 1, 9, "d")
	p.put("a", api.Row{-4, 1, 0, 0})
	p.wantFound(0, least, greatest, 9, "a b c d")
	p.wantFound(0, -4, -4, 9, "a")
	p.put("c", api.Row{3, 1, -1, 0})
	p.wantFound(0, 3, 3, 9, "b c")
	p.drop("c")
	p.wantFound(0, least, greatest, 9, "a b d")
	p.wantAll()
	p.forget()
	p.wantFound(0, least, greatest, 9, "d b a c")
}

// P8.1: Find tells the first most keys: none, fewer than there are, as many, or all of them.
func TestFindMost(t *testing.T) {
	p := sample(t)
	p.put("e", api.Row{4, 0, 0, 0})
	p.put("f", api.Row{9, 0, 0, 0})
	p.drop("d")
	for most, want := range map[int]string{0: "", 1: "b", 2: "b e", 3: "b e a", 4: "b e a c", 5: "b e a c f", 6: "b e a c f", greatest: "b e a c f"} {
		p.wantFound(0, least, greatest, most, want)
	}
	for most, want := range map[int]string{0: "", 1: "a", 2: "a c", 3: "a c", greatest: "a c"} {
		p.wantFound(0, 5, 5, most, want)
	}
	for _, most := range []int{0, 1, greatest} {
		p.wantFound(0, -4, -4, most, "")
		p.wantFound(0, 10, greatest, most, "")
	}
}

// P8.1: Find goes on behind the table's first rows, as many of them as were taken out, or written over.
func TestFindBehindOnesOver(t *testing.T) {
	for _, turn := range []func(p *pair, key string){
		func(p *pair, key string) { p.drop(key) },
		func(p *pair, key string) { p.put(key, api.Row{99, 99, 99, 99}) },
		func(p *pair, key string) { p.put(key, api.Row{-9, -9, -9, -9}) },
	} {
		p := over(t, 40, model{})
		for i := range 40 {
			p.under("k"+strconv.Itoa(10+i), api.Row{i, i, i / 2, 0})
		}
		for i := range 40 {
			for _, most := range []int{0, 1, 2, 3, 38, 40, 41, greatest} {
				for col := range api.Cols {
					p.wantFind(col, 0, 50, most, p.shown().find(col, 0, 50, most))
					p.wantFind(col, least, greatest, most, p.shown().find(col, least, greatest, most))
				}
			}
			turn(p, "k"+strconv.Itoa(10+i))
		}
		p.wantAll()
	}
}

// P8.1: Find of every range between edges of numbers, of every column, over rows of the table and written ones.
func TestFindEdgeNumbers(t *testing.T) {
	numbers := edgeNumbers()
	p := over(t, api.MaxRows, model{})
	for i := range 3 * len(numbers) {
		n := func(step int) int { return numbers[(i*step+i/len(numbers))%len(numbers)] }
		key, r := "k"+strconv.Itoa(i), api.Row{n(1), n(5), n(7), n(11)}
		if i%3 > 0 {
			p.under(key, r)
		}
		if i%2 > 0 {
			p.put(key, api.Row{n(7), n(1), n(11), n(5)})
		}
		if _, is := p.shown()[key]; is && i%7 == 1 {
			p.drop(key)
		}
	}
	p.wantAll()
	m := p.shown()
	for i, lo := range numbers {
		for j, hi := range numbers {
			col := (i + j) % api.Cols
			if lo > hi {
				p.wantNoFind(col, lo, hi, 9, api.ErrRange)
				continue
			}
			for _, most := range []int{3, greatest} {
				p.wantFind(col, lo, hi, most, m.find(col, lo, hi, most))
			}
		}
	}
}

// P8.1: of a column or a range that may not be ErrRange, also of a most below 0, of which ErrSize else.
func TestFindErrors(t *testing.T) {
	written := sample(t)
	written.put("a", api.Row{0, 0, 0, 0})
	written.put("x", api.Row{0, 0, 0, 0})
	written.drop("b")
	for _, p := range []*pair{over(t, 1, model{}), sample(t), written} {
		for _, most := range []int{0, 1, 9, greatest, -1, least} {
			for _, col := range []int{-1, 4, 5, 1 << 32, -1 << 32, least, greatest} {
				p.wantNoFind(col, 0, 9, most, api.ErrRange)
				p.wantNoFind(col, 9, 0, most, api.ErrRange)
			}
			for col := range api.Cols {
				for _, c := range [][2]int{{1, 0}, {5, 3}, {0, -1}, {greatest, least}, {greatest, greatest - 1}, {least + 1, least}} {
					p.wantNoFind(col, c[0], c[1], most, api.ErrRange)
				}
			}
		}
		for _, most := range []int{-1, -2, -1024, least} {
			for col := range api.Cols {
				p.wantNoFind(col, 0, 0, most, api.ErrSize)
				p.wantNoFind(col, least, greatest, most, api.ErrSize)
			}
		}
		p.wantAll()
	}
}

// P8.1 and P8.2: of a nil buffer each call answers ErrNil, ahead of all else, nothing, or 0.
func TestNilBuffer(t *testing.T) {
	p := &pair{T: t}
	for _, key := range append(noKeys(), "a", strings.Repeat("a", 16)) {
		p.wantNoPut(key, api.ErrNil)
		p.wantNoDelete(key, api.ErrNil)
		p.wantNoGet(key, api.ErrNil)
	}
	for _, col := range []int{-1, 0, 3, 4} {
		for _, most := range []int{-1, 0, 1, greatest} {
			p.wantNoFind(col, 0, 9, most, api.ErrNil)
			p.wantNoFind(col, 9, 0, most, api.ErrNil)
		}
	}
	if n, e := p.b.Len(), p.b.Apply(); n != 0 || e != api.ErrNil {
		t.Errorf("Len and Apply answer %d %v", n, e)
	}
	p.b.Drop()
	all := p.b.Writes()
	if all == nil {
		t.Fatal("Writes answers a nil function")
	}
	if l := told(all); len(l) != 0 {
		t.Errorf("Writes tells %v", l)
	}
}

// P8.2: each Put and Delete that is OK writes, whatever the table has; none that is not.
func TestWrites(t *testing.T) {
	p := over(t, 5, samples())
	if p.b.Writes() == nil {
		t.Fatal("Writes answers a nil function")
	}
	p.put("b", p.rows["b"])
	p.drop("a")
	p.put("x", api.Row{})
	p.wantNoPut("", api.ErrKey)
	p.put("y", api.Row{1, 2, 3, 4})
	p.wantNoPut("z", api.ErrFull)
	p.wantNoDelete("z", api.ErrNone)
	p.wantNoDelete("a", api.ErrNone)
	p.drop("x")
	want := []line{{key: "a", out: true}, {key: "b", row: samples()["b"]}, {key: "x", out: true}, {key: "y", row: api.Row{1, 2, 3, 4}}}
	if l := lines(p.b); !slices.Equal(l, want) {
		t.Errorf("Writes tells %v, want %v", l, want)
	}
	p.wantAll()
	p.gone("d")
	p.under("x", api.Row{7, 7, 7, 7})
	if l := lines(p.b); !slices.Equal(l, want) {
		t.Errorf("over a table that turned Writes tells %v, want %v", l, want)
	}
	p.wantAll()
}

// P8.2: Writes tells what was written when it was called, whatever is written ahead of the loop, and within it.
func TestWritesAsTheyWere(t *testing.T) {
	for _, turn := range []func(p *pair){
		func(p *pair) { p.put("a", api.Row{9, 9, 9, 9}) },
		func(p *pair) { p.put("q", api.Row{8, 8, 8, 8}) },
		func(p *pair) { p.drop("b") },
		func(p *pair) { p.put("d", api.Row{7, 7, 7, 7}) },
		func(p *pair) { p.forget() },
		func(p *pair) { p.apply() },
	} {
		p := sample(t)
		for _, key := range []string{"x", "a", "b", "y"} {
			p.put(key, api.Row{int(key[0]), 2, 3, 4})
		}
		p.drop("d")
		p.drop("x")
		want, within, ahead := p.written(), p.b.Writes(), p.b.Writes()
		var l []line
		for key, r := range within {
			if len(l) == 0 {
				turn(p)
			}
			l = append(l, lineOf(key, r))
		}
		if !slices.Equal(l, want) {
			t.Errorf("turned within the loop, Writes tells %v, want %v", l, want)
		}
		for range 2 {
			if l := told(ahead); !slices.Equal(l, want) {
				t.Errorf("turned ahead of the loop, Writes tells %v, want %v", l, want)
			}
		}
		p.wantAll()
	}
}

// P8.2: each key may be turned while it is told of.
func TestWritesWhileWritten(t *testing.T) {
	p := over(t, 99, model{})
	for i := range 20 {
		p.put("k"+strconv.Itoa(i), api.Row{i, 0, 0, 0})
	}
	var l []line
	want := p.written()
	for key, r := range p.b.Writes() {
		l = append(l, lineOf(key, r))
		switch len(l) % 3 {
		case 0:
			p.drop(key)
		case 1:
			p.put(key, api.Row{-1, len(l), 0, 0})
		default:
			p.put(key+"x", api.Row{})
		}
	}
	if !slices.Equal(l, want) {
		t.Errorf("Writes tells %v, want %v", l, want)
	}
	p.wantAll()
}

// P8.2: who goes through Writes may leave it wherever he likes, and go through two at once.
func TestWritesLeft(t *testing.T) {
	p := sample(t)
	for _, key := range []string{"x", "a", "b"} {
		p.put(key, api.Row{int(key[0]), 2, 3, 4})
	}
	p.drop("d")
	want, all := p.written(), p.b.Writes()
	for n := range len(want) + 1 {
		var l []line
		for key, r := range all {
			if len(l) == n {
				break
			}
			l = append(l, lineOf(key, r))
		}
		if !slices.Equal(l, want[:n]) {
			t.Errorf("left behind %d, Writes tells %v", n, l)
		}
	}
	pairs := 0
	for range all {
		for range all {
			pairs++
		}
	}
	if pairs != len(want)*len(want) {
		t.Errorf("two at once tell %d pairs of %d writes", pairs, len(want))
	}
}

// P8.2 and R2: the rows that Writes tells are copies: who writes into them turns nothing but them.
func TestWritesAreCopies(t *testing.T) {
	p := sample(t)
	p.put("a", api.Row{1, 2, 3, 4})
	p.put("x", api.Row{1, 2, 3, 4})
	p.drop("b")
	other := p.b.Writes()
	var kept []*api.Row
	for _, r := range p.b.Writes() {
		if r != nil {
			*r = api.Row{9, 9, 9, 9}
			kept = append(kept, r)
		}
	}
	if l := told(other); !slices.Equal(l, p.written()) {
		t.Errorf("Writes tells %v, want %v", l, p.written())
	}
	p.wantAll()
	kept[0][0] = 8
	if *kept[1] != (api.Row{9, 9, 9, 9}) {
		t.Errorf("of two keys' rows both turned to %v", *kept[1])
	}
	p.apply()
	*kept[0], *kept[1] = api.Row{7, 7, 7, 7}, api.Row{6, 6, 6, 6}
	p.wantAll()
}

// R2: rows and lists that go in or out turn with nothing, and nothing with them.
func TestAnswersAreNew(t *testing.T) {
	p := sample(t)
	r := api.Row{1, 2, 3, 4}
	p.put("a", r)
	got, _ := p.b.Get("a")
	r[0], got[1] = 9, 9
	p.wantAll()
	first, _ := p.b.Find(0, least, greatest, 3)
	second, _ := p.b.Find(0, least, greatest, 3)
	want := slices.Clone(second)
	_ = append(first[:1], "x", "y")
	clear(first[:1])
	p.drop("a")
	if !slices.Equal(second, want) {
		t.Errorf("what was answered turned to %q, want %q", second, want)
	}
	p.wantAll()
}

// P8.2: Apply lets the table have what the buffer shows, and the buffer goes on without writes.
func TestApply(t *testing.T) {
	p := sample(t)
	p.apply()
	p.put("x", api.Row{1, 2, 3, 4})
	p.put("a", api.Row{4, 3, 2, 1})
	p.drop("b")
	p.put("y", api.Row{})
	p.drop("y")
	p.drop("c")
	p.put("c", api.Row{least, greatest, 0, -1})
	p.wantAll()
	p.apply()
	p.put("b", api.Row{5, 5, 5, 5})
	p.drop("x")
	p.wantAll()
	p.apply()
	p.apply()
}

// P8.2: of a table that is full those go first that are taken out, whatever their keys.
func TestApplyOverFullTable(t *testing.T) {
	for _, c := range [][2]string{{"a", "b"}, {"b", "a"}} {
		p := over(t, 1, model{c[0]: {1, 1, 1, 1}})
		p.drop(c[0])
		p.put(c[1], api.Row{2, 2, 2, 2})
		p.apply()
	}
	p := over(t, 4, samples())
	for _, key := range []string{"d", "c", "b"} {
		p.drop(key)
	}
	for _, key := range []string{"A", "bb", "z"} {
		p.put(key, api.Row{3, 3, 3, 3})
	}
	p.apply()
}

// P8.2: where more rows are shown than may be, Apply is refused as a whole, up to there are fewer.
func TestApplyFull(t *testing.T) {
	p := over(t, 3, model{"a": {1, 1, 1, 1}, "b": {2, 2, 2, 2}})
	p.drop("a")
	p.put("b", api.Row{3, 3, 3, 3})
	p.put("x", api.Row{4, 4, 4, 4})
	p.put("y", api.Row{5, 5, 5, 5})
	p.under("z", api.Row{6, 6, 6, 6})
	p.wantNoApply(api.ErrFull)
	p.wantNoApply(api.ErrFull)
	p.gone("z")
	p.apply()
	p = over(t, 1, model{})
	p.put("a", api.Row{1, 1, 1, 1})
	p.under("b", api.Row{2, 2, 2, 2})
	p.wantNoApply(api.ErrFull)
	p.drop("b")
	p.apply()
	p = over(t, 1, model{})
	p.put("a", api.Row{1, 1, 1, 1})
	p.under("b", api.Row{2, 2, 2, 2})
	p.wantNoApply(api.ErrFull)
	p.forget()
	p.apply()
}

// P8.2: what is to be taken out may be gone already, and what is to be put may have come.
func TestApplyOfTurnedTable(t *testing.T) {
	p := sample(t)
	p.drop("a")
	p.put("x", api.Row{1, 2, 3, 4})
	p.put("b", api.Row{5, 6, 7, 8})
	p.gone("a")
	p.under("x", api.Row{4, 3, 2, 1})
	p.gone("b")
	p.wantAll()
	p.apply()
	p = over(t, 9, model{})
	p.put("a", api.Row{})
	p.drop("a")
	p.wantAll()
	p.apply()
	p.put("a", api.Row{})
	p.drop("a")
	p.under("a", api.Row{1, 1, 1, 1})
	p.wantAll()
	p.apply()
}

// P8.2: behind Drop the buffer shows just the table, and takes writes as if it were new.
func TestDrop(t *testing.T) {
	p := over(t, 4, samples())
	p.drop("a")
	p.put("b", api.Row{1, 2, 3, 4})
	p.put("x", api.Row{5, 6, 7, 8})
	p.wantAll()
	p.forget()
	p.wantAll()
	p.wantNoPut("x", api.ErrFull)
	p.wantNoDelete("x", api.ErrNone)
	p.forget()
	p.drop("a")
	p.put("x", api.Row{1, 1, 1, 1})
	p.wantAll()
	p.apply()
	p.forget()
	p.wantAll()
}

// P8.1 and P8.3: a table that turns beneath the buffer is shown as it is now, but for what was written.
func TestTableTurns(t *testing.T) {
	p := sample(t)
	p.under("e", api.Row{7, 7, 7, 7})
	p.gone("a")
	p.under("b", api.Row{8, 8, 8, 8})
	p.wantAll()
	p.put("c", api.Row{1, 1, 1, 1})
	p.drop("d")
	p.put("x", api.Row{2, 2, 2, 2})
	p.wantAll()
	for _, key := range []string{"c", "d", "x"} {
		p.under(key, api.Row{9, 9, 9, 9})
		p.wantAll()
		p.gone(key)
		p.wantAll()
	}
	p.wantNoDelete("d", api.ErrNone)
	p.forget()
	p.wantAll()
}

// P8.1 and P8.2: two buffers over one table know nothing of one another but what one of them has applied.
func TestTwoBuffers(t *testing.T) {
	p := sample(t)
	b, e := buffer.New(p.x)
	if e != api.OK {
		t.Fatalf("New answers %v", e)
	}
	q := &pair{t, p.x, b, p.rows, map[string]line{}}
	p.put("a", api.Row{1, 1, 1, 1})
	p.drop("b")
	q.put("b", api.Row{2, 2, 2, 2})
	q.put("x", api.Row{3, 3, 3, 3})
	p.wantAll()
	q.wantAll()
	p.apply()
	q.rows = maps.Clone(p.rows)
	q.wantAll()
	q.apply()
	p.rows = maps.Clone(q.rows)
	p.wantAll()
}

// P8.3: calls of a buffer answer what these calls of the table would, and Apply makes of its table what they would of it.
func TestSameAsTable(t *testing.T) {
	numbers := edgeNumbers()
	for seed := range 60 {
		source := rand.New(rand.NewSource(int64(seed)))
		p := over(t, 1+source.Intn(12), model{})
		for range source.Intn(p.x.Most() + 1) {
			p.under("k"+strconv.Itoa(source.Intn(20)), anyRow(source, numbers))
		}
		for range 6 {
			first, like := p.x.Copy(), p.x.Copy()
			for range 30 {
				sameCall(t, source, numbers, p.b, like)
				if !table.Same(p.x, first) {
					t.Fatal("the table turned without Apply")
				}
			}
			if seed%3 == 0 {
				p.b.Drop()
				like = first
			} else if e := p.b.Apply(); e != api.OK {
				t.Fatalf("Apply answers %v", e)
			}
			if !table.Same(p.x, like) || !p.x.Check() || len(lines(p.b)) != 0 {
				t.Fatalf("the table has %v, and writes are %v, want %v", rowsOf(p.x), lines(p.b), rowsOf(like))
			}
		}
	}
}

// anyRow is a row with values that are often those of other rows.
func anyRow(source *rand.Rand, numbers []int) api.Row {
	n := func(most int) int { return numbers[source.Intn(most)] }
	return api.Row{n(2), n(5), n(len(numbers)), n(len(numbers))}
}

// sameCall holds any call of a buffer against the same call of a table.
func sameCall(t *testing.T, source *rand.Rand, numbers []int, b *buffer.Buffer, like *table.Table) {
	t.Helper()
	key, r := "k"+strconv.Itoa(source.Intn(20)), anyRow(source, numbers)
	if source.Intn(12) == 0 {
		key = noKeys()[source.Intn(len(noKeys()))]
	}
	var got, want api.Errno
	switch source.Intn(5) {
	case 0, 1:
		got = b.Put(key, r)
		_, _, want = like.Put(key, r)
	case 2:
		got = b.Delete(key)
		_, want = like.Delete(key)
	case 3:
		var row, other api.Row
		row, got = b.Get(key)
		other, want = like.Get(key)
		if row != other {
			t.Fatalf("Get(%q) answers %v, want %v", key, row, other)
		}
	default:
		var l, other []string
		col, lo, hi, most := source.Intn(6)-1, numbers[source.Intn(len(numbers))], numbers[source.Intn(len(numbers))], source.Intn(15)-1
		l, got = b.Find(col, lo, hi, most)
		other, want = like.Find(col, lo, hi, most)
		if !slices.Equal(l, other) {
			t.Fatalf("Find(%d, %d, %d, %d) answers %q, want %q", col, lo, hi, most, l, other)
		}
	}
	if got != want || b.Len() != like.Len() {
		t.Fatalf("of %q a call answers %v, and Len %d, want %v, and %d", key, got, b.Len(), want, like.Len())
	}
}

// P8.1 to P8.3: after whatever calls, also of the table beneath, all is shown, told and done as the words say.
func TestAnyCalls(t *testing.T) {
	numbers := edgeNumbers()
	for seed := range 30 {
		source := rand.New(rand.NewSource(int64(seed)))
		p := over(t, 1+source.Intn(15), model{})
		for range 150 {
			anyCall(p, source, numbers)
			p.wantAll()
			col, lo, hi, most := source.Intn(api.Cols), numbers[source.Intn(len(numbers))], numbers[source.Intn(len(numbers))], source.Intn(20)
			p.wantFind(col, min(lo, hi), max(lo, hi), most, p.shown().find(col, min(lo, hi), max(lo, hi), most))
		}
	}
}

// anyCall is any call of a buffer, or of its table, held against what the words tell.
func anyCall(p *pair, source *rand.Rand, numbers []int) {
	p.Helper()
	key, r := "k"+strconv.Itoa(source.Intn(24)), anyRow(source, numbers)
	_, beneath := p.rows[key]
	_, is := p.shown()[key]
	switch kind := source.Intn(20); {
	case kind < 2 && beneath:
		p.gone(key)
	case kind < 3 && (beneath || len(p.rows) < p.x.Most()):
		p.under(key, r)
	case kind == 3:
		p.forget()
	case kind == 4 && len(p.shown()) > p.x.Most():
		p.wantNoApply(api.ErrFull)
	case kind == 4:
		p.apply()
	case kind < 10 && is:
		p.drop(key)
	case kind < 10:
		p.wantNoDelete(key, api.ErrNone)
		p.wantNoGet(key, api.ErrNone)
	case !is && len(p.shown()) >= p.x.Most():
		p.wantNoPut(key, api.ErrFull)
	default:
		p.put(key, r)
	}
}
