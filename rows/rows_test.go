package rows_test

import (
	"bytes"
	"math"
	"math/big"
	"math/rand"
	"slices"
	"strconv"
	"strings"
	"testing"

	"breviary/api"
	"breviary/keys"
	"breviary/rows"
)

const least, greatest = math.MinInt, math.MaxInt

// limit is the first number that has no groups: 2^64.
var limit = new(big.Int).Lsh(big.NewInt(1), 64)

// groups is a number's groups as the chapter of fields tells them.
func groups(n *big.Int) []byte {
	var b []byte
	for n = new(big.Int).Set(n); ; {
		low := new(big.Int)
		n.DivMod(n, big.NewInt(128), low)
		if n.Sign() == 0 {
			return append(b, byte(low.Int64()))
		}
		b = append(b, byte(low.Int64()+128))
	}
}

// number is a number as bytes: groups of it twice, or of -1 less it, twice, and 1.
func number(n int) []byte {
	b := big.NewInt(int64(n))
	if n < 0 {
		b.Sub(big.NewInt(-1), b)
		return groups(b.Mul(b, big.NewInt(2)).Add(b, big.NewInt(1)))
	}
	return groups(b.Mul(b, big.NewInt(2)))
}

// rowBytes is a row's columns one behind the other.
func rowBytes(r api.Row) []byte {
	return slices.Concat(number(r[0]), number(r[1]), number(r[2]), number(r[3]))
}

// knownNumber is the number that stands first in bytes, and how many of them it has; 0, if none does.
func knownNumber(b []byte) (n, size int) {
	sum, unit := new(big.Int), big.NewInt(1)
	for i, x := range b {
		sum.Add(sum, new(big.Int).Mul(unit, big.NewInt(int64(x%128))))
		unit.Mul(unit, big.NewInt(128))
		if x >= 128 {
			continue
		}
		if sum.Cmp(limit) >= 0 || !bytes.Equal(groups(sum), b[:i+1]) {
			return 0, 0
		}
		half, odd := new(big.Int).DivMod(sum, big.NewInt(2), new(big.Int))
		if odd.Sign() > 0 {
			half.Sub(big.NewInt(-1), half)
		}
		return int(half.Int64()), i + 1
	}
	return 0, 0
}

// known is the row of bytes, and whether they are one's.
func known(b []byte) (r api.Row, is bool) {
	for col := range r {
		n, size := knownNumber(b)
		if size == 0 {
			return api.Row{}, false
		}
		r[col], b = n, b[size:]
	}
	if len(b) > 0 {
		return api.Row{}, false
	}
	return r, true
}

// numbers is numbers of all sizes, of both signs, and those beside where groups become more.
func numbers() []int {
	l := []int{0, 1, -1, 2, -2, 300, -300, least, least + 1, greatest, greatest - 1}
	for bit := 5; bit < 64; bit++ {
		for near := -1; near <= 1; near++ {
			l = append(l, 1<<bit+near, -1<<bit+near)
		}
	}
	return l
}

// anyNumber is a number of any size and sign.
func anyNumber(source *rand.Rand) int {
	switch source.Intn(8) {
	case 0:
		return 0
	case 1:
		return least
	case 2:
		return greatest
	}
	n := int(source.Uint64() >> source.Intn(64))
	if source.Intn(2) == 0 {
		return -n
	}
	return n
}

// someRows is rows of small and of great numbers, of each number in each column, and of any.
func someRows() []api.Row {
	l := []api.Row{
		{}, {0, 1, -1, 64}, {1, 2, 3, 4}, {-1, -2, -3, -4}, {63, 64, -64, -65}, {least, greatest, least, greatest},
		{least, least, least, least}, {greatest, greatest, greatest, greatest}, {-1, -1, -1, -1}, {1, 1, 1, 1},
	}
	for _, n := range numbers() {
		for col := range api.Cols {
			var alone, beside api.Row
			alone[col] = n
			beside = api.Row{5, -700, greatest, least}
			beside[col] = n
			l = append(l, alone, beside)
		}
	}
	source := rand.New(rand.NewSource(1))
	for range 2000 {
		l = append(l, api.Row{anyNumber(source), anyNumber(source), anyNumber(source), anyNumber(source)})
	}
	return l
}

// wantRow holds Decode against a row.
func wantRow(t *testing.T, b []byte, want api.Row) {
	t.Helper()
	if r, e := rows.Decode(b); r != want || e != api.OK {
		t.Fatalf("Decode(%v) answers %v %v, want %v", b, r, e, want)
	}
}

// wantNoRow holds Decode against ErrForm, and nothing beside it.
func wantNoRow(t *testing.T, b []byte) {
	t.Helper()
	if r, e := rows.Decode(b); r != (api.Row{}) || e != api.ErrForm {
		t.Fatalf("Decode(%v) answers %v %v, want %v", b, r, e, api.ErrForm)
	}
}

// P6.1: bytes as the document writes them.
func TestEncodeSamples(t *testing.T) {
	low, high := strings.Repeat("\xff", 9)+"\x01", "\xfe"+strings.Repeat("\xff", 8)+"\x01"
	for _, c := range []struct {
		row  api.Row
		want string
	}{
		{api.Row{0, 1, -1, 64}, "\x00\x02\x01\x80\x01"},
		{api.Row{}, "\x00\x00\x00\x00"},
		{api.Row{1, 2, 3, 4}, "\x02\x04\x06\x08"},
		{api.Row{-1, -2, -3, -4}, "\x01\x03\x05\x07"},
		{api.Row{63, -64, -65, 8192}, "\x7e\x7f\x81\x01\x80\x80\x01"},
		{api.Row{least, 0, 0, 0}, low + "\x00\x00\x00"},
		{api.Row{0, least, 0, 0}, "\x00" + low + "\x00\x00"},
		{api.Row{0, 0, greatest, 0}, "\x00\x00" + high + "\x00"},
		{api.Row{0, 0, 0, greatest}, "\x00\x00\x00" + high},
		{api.Row{least, greatest, greatest, least}, low + high + high + low},
	} {
		if b := rows.Encode(c.row); string(b) != c.want {
			t.Errorf("Encode(%v) answers %v, want %v", c.row, b, []byte(c.want))
		}
		wantRow(t, []byte(c.want), c.row)
	}
}

// P6.1 and P6.3: a row is its columns, one behind the other; Decode of Encode is the row.
func TestEncodeDecode(t *testing.T) {
	for _, row := range someRows() {
		b := rows.Encode(row)
		if want := rowBytes(row); !bytes.Equal(b, want) {
			t.Fatalf("Encode(%v) answers %v, want %v", row, b, want)
		}
		wantRow(t, b, row)
	}
}

// P6.1: no bytes are no row.
func TestDecodeNothing(t *testing.T) {
	wantNoRow(t, nil)
	wantNoRow(t, []byte{})
	wantNoRow(t, []byte("\x00\x00\x00\x00")[:0])
}

// P6.1: bytes that end too early, wherever they end, are no row.
func TestDecodeEndsEarly(t *testing.T) {
	for _, row := range someRows() {
		b := rowBytes(row)
		for n := range len(b) {
			wantNoRow(t, b[:n])
			wantNoRow(t, slices.Clone(b[:n]))
		}
	}
}

// P6.1: bytes with any others behind the row are no row.
func TestDecodeBytesBehind(t *testing.T) {
	for _, row := range []api.Row{{}, {0, 1, -1, 64}, {least, greatest, least, greatest}, {1, 2, 3, 1 << 40}} {
		b := rowBytes(row)
		for x := range 256 {
			wantNoRow(t, append(slices.Clone(b), byte(x)))
		}
		wantNoRow(t, slices.Concat(b, b))
		wantNoRow(t, slices.Concat(b, number(least)))
		wantNoRow(t, slices.Concat(b, make([]byte, 1<<20)))
	}
}

// P6.1: a number that is written longer than it need be, that is too great, or that has no end, is none, in whichever column.
func TestDecodeWrongNumbers(t *testing.T) {
	wrong := []string{
		"\x80\x00", "\x81\x00", "\x82\x00", "\xff\x00", "\x80\x80\x00", "\xff\xff\x00", "\x80\x81\x00", "\xac\x82\x00",
		strings.Repeat("\xff", 9) + "\x00", strings.Repeat("\xff", 9) + "\x81\x00", strings.Repeat("\x80", 9) + "\x00",
		strings.Repeat("\xff", 9) + "\x02", strings.Repeat("\xff", 9) + "\x7f", strings.Repeat("\x80", 9) + "\x02",
		strings.Repeat("\x80", 10) + "\x00", strings.Repeat("\x80", 10) + "\x01", strings.Repeat("\xff", 99) + "\x01",
		"\x80", "\xff", strings.Repeat("\x80", 9), strings.Repeat("\xff", 9), strings.Repeat("\xff", 10), strings.Repeat("\x80", 9999),
	}
	for _, row := range []api.Row{{}, {5, -700, greatest, least}, {least, least, least, least}} {
		for col := range api.Cols {
			for _, w := range wrong {
				var b []byte
				for other := range api.Cols {
					if other == col {
						b = append(b, w...)
					} else {
						b = append(b, number(row[other])...)
					}
				}
				wantNoRow(t, b)
			}
			longer := []byte(nil)
			for other := range api.Cols {
				one := number(row[other])
				if other == col {
					one[len(one)-1] += 128
					one = append(one, 0)
				}
				longer = append(longer, one...)
			}
			wantNoRow(t, longer)
		}
	}
}

// holdDecode holds Decode against the words, and Encode of the row, if there is one, against the bytes.
func holdDecode(t *testing.T, b []byte) {
	t.Helper()
	row, is := known(b)
	if !is {
		wantNoRow(t, b)
		return
	}
	wantRow(t, b, row)
	if again := rows.Encode(row); !bytes.Equal(again, b) {
		t.Fatalf("of %v there is read %v, which is written as %v", b, row, again)
	}
}

// P6.1 and P6.3: all bytes of a few kinds, up to seven: what is a row is one, and is written as the same bytes.
func TestDecodeAllShort(t *testing.T) {
	kinds := []byte{0, 1, 127, 128, 255}
	var each func(b []byte, left int)
	each = func(b []byte, left int) {
		holdDecode(t, b)
		if left == 0 {
			return
		}
		for _, x := range kinds {
			each(append(slices.Clip(b), x), left-1)
		}
	}
	each(nil, 7)
}

// P6.1 and P6.3: bytes of any kind, and rows' bytes with a few of them turned, taken out, or put in.
func TestDecodeAny(t *testing.T) {
	source := rand.New(rand.NewSource(2))
	for range 20000 {
		b := make([]byte, source.Intn(45))
		source.Read(b)
		for i := range b {
			if source.Intn(3) > 0 {
				b[i] %= 128
			}
		}
		holdDecode(t, b)
	}
	for _, row := range someRows() {
		b := rowBytes(row)
		i := source.Intn(len(b))
		holdDecode(t, slices.Concat(b[:i], []byte{byte(source.Intn(256))}, b[i+1:]))
		holdDecode(t, slices.Concat(b[:i], b[i+1:]))
		holdDecode(t, slices.Concat(b[:i], []byte{byte(source.Intn(256))}, b[i:]))
	}
}

// R2: bytes that are handed in stay as they were, with what stands behind their length.
func TestDecodeWritesNothing(t *testing.T) {
	for _, row := range []api.Row{{}, {0, 1, -1, 64}, {least, greatest, least, greatest}} {
		room := slices.Concat(rowBytes(row), []byte("\x00\x80behind"))
		was := bytes.Clone(room)
		for n := range len(room) {
			rows.Decode(room[:n])
			if !bytes.Equal(room, was) {
				t.Fatalf("%d bytes: they, or what stands behind them, were written into", n)
			}
		}
	}
}

// R2: what Encode answers is the caller's.
func TestEncodeAnswersNewBytes(t *testing.T) {
	row := api.Row{0, 1, -1, 64}
	first, second := rows.Encode(row), rows.Encode(row)
	clear(first)
	first = append(first, 9, 9, 9)
	third := rows.Encode(row)
	if want := rowBytes(row); !bytes.Equal(second, want) || !bytes.Equal(third, want) {
		t.Errorf("what was written into turned others to %v %v", second, third)
	}
	clear(third)
	if string(first) != "\x00\x00\x00\x00\x00\x09\x09\x09" {
		t.Errorf("what was answered turned to %v", first)
	}
}

// told is changes as a text: "0-1 0+2" are the entry of 1 that goes out of column 0, and that of 2 that comes in.
func told(l []rows.Change, key string) string {
	var words []string
	for _, c := range l {
		sign := "-"
		if c.Add {
			sign = "+"
		}
		word := strconv.Itoa(c.Col) + sign + strconv.Itoa(c.Entry.Value)
		if c.Entry.Key != key {
			word += " of " + c.Entry.Key
		}
		words = append(words, word)
	}
	return strings.Join(words, " ")
}

// wantChanges holds Changes against changes.
func wantChanges(t *testing.T, key string, old, now *api.Row, want []rows.Change) {
	t.Helper()
	if l, e := rows.Changes(key, old, now); !slices.Equal(l, want) || e != api.OK {
		t.Fatalf("Changes of %q from %v to %v answers %q %v, want %q", key, old, now, told(l, key), e, told(want, key))
	}
}

// expected is the changes that the words tell: first of old, if there is one, then of now, if there is one.
func expected(key string, old, now *api.Row) []rows.Change {
	var l []rows.Change
	for col := 0; col < 4; col++ {
		if old != nil && now != nil && old[col] == now[col] {
			continue
		}
		if old != nil {
			l = append(l, rows.Change{Col: col, Entry: keys.Entry{Value: old[col], Key: key}})
		}
		if now != nil {
			l = append(l, rows.Change{Col: col, Entry: keys.Entry{Value: now[col], Key: key}, Add: true})
		}
	}
	return l
}

// P6.2: changes written out, in the order in which they go out and come in.
func TestChangesSamples(t *testing.T) {
	for _, c := range []struct {
		old, now *api.Row
		want     string
	}{
		{&api.Row{1, 0, 0, 0}, &api.Row{1, 2, 0, 0}, "1-0 1+2"},
		{nil, nil, ""},
		{nil, &api.Row{}, "0+0 1+0 2+0 3+0"},
		{&api.Row{}, nil, "0-0 1-0 2-0 3-0"},
		{nil, &api.Row{4, 3, 2, 1}, "0+4 1+3 2+2 3+1"},
		{&api.Row{4, 3, 2, 1}, nil, "0-4 1-3 2-2 3-1"},
		{&api.Row{}, &api.Row{}, ""},
		{&api.Row{1, 2, 3, 4}, &api.Row{1, 2, 3, 4}, ""},
		{&api.Row{1, 2, 3, 4}, &api.Row{9, 2, 3, 4}, "0-1 0+9"},
		{&api.Row{1, 2, 3, 4}, &api.Row{1, 2, 9, 4}, "2-3 2+9"},
		{&api.Row{1, 2, 3, 4}, &api.Row{1, 2, 3, -9}, "3-4 3+-9"},
		{&api.Row{1, 2, 3, 4}, &api.Row{0, 2, 3, 0}, "0-1 0+0 3-4 3+0"},
		{&api.Row{1, 2, 3, 4}, &api.Row{5, 6, 7, 8}, "0-1 0+5 1-2 1+6 2-3 2+7 3-4 3+8"},
		{&api.Row{1, 2, 3, 4}, &api.Row{4, 3, 2, 1}, "0-1 0+4 1-2 1+3 2-3 2+2 3-4 3+1"},
		{&api.Row{8, 7, 6, 5}, &api.Row{1, 2, 3, 4}, "0-8 0+1 1-7 1+2 2-6 2+3 3-5 3+4"},
		{&api.Row{1, 1, 1, 1}, &api.Row{2, 2, 2, 2}, "0-1 0+2 1-1 1+2 2-1 2+2 3-1 3+2"},
		{&api.Row{1, 2, 1, 2}, &api.Row{2, 1, 1, 2}, "0-1 0+2 1-2 1+1"},
		{
			&api.Row{least, greatest, least, -1}, &api.Row{greatest, least, least, 1},
			"0--9223372036854775808 0+9223372036854775807 1-9223372036854775807 1+-9223372036854775808 3--1 3+1",
		},
	} {
		l, e := rows.Changes("a", c.old, c.now)
		if got := told(l, "a"); got != c.want || e != api.OK {
			t.Errorf("Changes from %v to %v answers %q %v, want %q", c.old, c.now, got, e, c.want)
		}
	}
}

// P6.2: changes in no column, in one, in some, in all: of any numbers.
func TestChangesOfAnyColumns(t *testing.T) {
	source := rand.New(rand.NewSource(3))
	for range 300 {
		old := api.Row{anyNumber(source), anyNumber(source), anyNumber(source), anyNumber(source)}
		for turned := range 1 << api.Cols {
			now, want := old, 0
			for col := range api.Cols {
				if turned>>col%2 == 1 {
					now[col] = old[col] ^ 1<<source.Intn(64)
					want += 2
				}
			}
			l := expected("key", &old, &now)
			if len(l) != want {
				t.Fatalf("the test expects %q of %d columns", told(l, "key"), want/2)
			}
			wantChanges(t, "key", &old, &now, l)
		}
	}
}

// P6.2: one column alone, of each number, also where it is that of other columns, or beside it.
func TestChangesOfOneColumn(t *testing.T) {
	for _, n := range numbers() {
		for _, m := range []int{0, n, n + 1, n - 1, -n, -1 - n, least, greatest, n ^ 1<<32, n ^ least} {
			for col := range api.Cols {
				old := api.Row{m, m, m, m}
				now := old
				old[col] = n
				wantChanges(t, "a", &old, &now, expected("a", &old, &now))
				wantChanges(t, "a", &now, &old, expected("a", &now, &old))
				wantChanges(t, "a", &old, nil, expected("a", &old, nil))
				wantChanges(t, "a", nil, &old, expected("a", nil, &old))
			}
		}
	}
}

// P6.2: any key has changes.
func TestChangesOfAnyKey(t *testing.T) {
	old, now := api.Row{1, 2, 3, 4}, api.Row{1, -2, 3, 0}
	var l []string
	for b := range 256 {
		for _, n := range []int{1, 2, 15, 16} {
			l = append(l, strings.Repeat(string([]byte{byte(b)}), n))
		}
	}
	for _, key := range append(l, "0123456789abcdef", "a\x00", "\x00a", "\xc3\xa4", "\xff\xfe\x00\x80") {
		for _, from := range []*api.Row{nil, &old, &now} {
			for _, to := range []*api.Row{nil, &old, &now} {
				wantChanges(t, key, from, to, expected(key, from, to))
			}
		}
	}
}

// P6.2: of what is no key there are no changes, also where nothing would turn.
func TestChangesOfNoKey(t *testing.T) {
	old, now, same := api.Row{1, 2, 3, 4}, api.Row{1, -2, 3, 0}, api.Row{1, 2, 3, 4}
	for _, key := range []string{"", strings.Repeat("a", 17), strings.Repeat("\x00", 17), strings.Repeat("\xff", 32), strings.Repeat("a", 1<<20)} {
		for _, from := range []*api.Row{nil, {}, &old, &now, &same} {
			for _, to := range []*api.Row{nil, {}, &old, &now, &same} {
				if l, e := rows.Changes(key, from, to); len(l) != 0 || e != api.ErrKey {
					t.Errorf("Changes of %d bytes from %v to %v answers %q %v", len(key), from, to, told(l, key), e)
				}
			}
		}
	}
}

// back is changes the other way round: what went out comes in, behind what came in there.
func back(l []rows.Change) []rows.Change {
	l = slices.Clone(l)
	for i := range l {
		l[i].Add = !l[i].Add
		if i > 0 && l[i].Col == l[i-1].Col {
			l[i], l[i-1] = l[i-1], l[i]
		}
	}
	return l
}

// sides is a few rows, each of which is near another one, and none.
func sides() []*api.Row {
	l := []*api.Row{nil, {}, {}, {least, least, least, least}, {greatest, greatest, greatest, greatest}, {-1, -1, -1, -1}}
	source := rand.New(rand.NewSource(4))
	for range 40 {
		r := api.Row{source.Intn(3), source.Intn(3) - 1, anyNumber(source), source.Intn(2)}
		near := r
		near[source.Intn(api.Cols)]++
		l = append(l, &r, &near)
	}
	return l
}

// P6.3: changes there and back are each other's; to the same row, and to itself, there are none.
func TestChangesThereAndBack(t *testing.T) {
	for _, old := range sides() {
		for _, now := range sides() {
			l, e := rows.Changes("a", old, now)
			if e != api.OK {
				t.Fatalf("Changes from %v to %v answers %v", old, now, e)
			}
			wantChanges(t, "a", now, old, back(l))
		}
		wantChanges(t, "a", old, old, nil)
		if old != nil {
			same := *old
			wantChanges(t, "a", old, &same, nil)
			wantChanges(t, "a", &same, old, nil)
		}
	}
}

// place is an entry of an index.
type place struct {
	col   int
	entry keys.Entry
}

// index is the entries of a key's row in the indexes of all columns.
func index(key string, r *api.Row) map[place]int {
	l := map[place]int{}
	if r != nil {
		for col, n := range r {
			l[place{col, keys.Entry{Value: n, Key: key}}] = 1
		}
	}
	return l
}

// P6.2: changes turn the indexes of old into those of now: what goes out is there, what comes in is not.
func TestChangesTurnIndexes(t *testing.T) {
	for _, old := range sides() {
		for _, now := range sides() {
			turned, want := index("a", old), index("a", now)
			l, _ := rows.Changes("a", old, now)
			for _, c := range l {
				p := place{c.Col, c.Entry}
				if there := turned[p] == 1; there == c.Add {
					t.Fatalf("from %v to %v: %q: an entry goes out or comes in twice", old, now, told(l, "a"))
				}
				if c.Add {
					turned[p] = 1
				} else {
					delete(turned, p)
				}
			}
			if len(turned) != len(want) {
				t.Fatalf("from %v to %v: %q leaves %v", old, now, told(l, "a"), turned)
			}
			for p := range want {
				if turned[p] != 1 {
					t.Fatalf("from %v to %v: %q leaves %v", old, now, told(l, "a"), turned)
				}
			}
		}
	}
}

// R2 and R3: rows that are handed in stay as they were, and what is answered is the caller's: it turns with nothing.
func TestChangesAreNew(t *testing.T) {
	old, now := api.Row{1, 2, 3, 4}, api.Row{5, 2, 7, 4}
	want := expected("a", &old, &now)
	first, _ := rows.Changes("a", &old, &now)
	if old != (api.Row{1, 2, 3, 4}) || now != (api.Row{5, 2, 7, 4}) {
		t.Fatalf("the rows turned to %v %v", old, now)
	}
	second, _ := rows.Changes("a", &old, &now)
	clear(first[1:])
	first = append(first[:1], first[:3]...)
	old, now = api.Row{}, api.Row{9, 9, 9, 9}
	if !slices.Equal(second, want) {
		t.Errorf("what was answered turned to %q, want %q", told(second, "a"), told(want, "a"))
	}
	old, now = api.Row{1, 2, 3, 4}, api.Row{5, 2, 7, 4}
	wantChanges(t, "a", &old, &now, want)
	if !slices.Equal(first, []rows.Change{want[0], want[0], {}, {}}) {
		t.Errorf("what was answered turned to %q", told(first, "a"))
	}
}
