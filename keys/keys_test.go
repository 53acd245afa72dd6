package keys_test

import (
	"math"
	"math/big"
	"math/rand"
	"slices"
	"strings"
	"testing"

	"breviary/api"
	"breviary/keys"
)

// values is values of all sizes, of both signs, and those beside where a byte turns.
func values() []int {
	l := []int{0, 1, -1, 2, -2, math.MaxInt, math.MaxInt - 1, math.MinInt, math.MinInt + 1}
	for _, bit := range []int{7, 8, 15, 16, 31, 32, 55, 56, 62} {
		l = append(l, 1<<bit-1, 1<<bit, 1<<bit+1, -1<<bit-1, -1<<bit, -1<<bit+1)
	}
	source := rand.New(rand.NewSource(1))
	for range 10 {
		l = append(l, int(source.Uint64()>>source.Intn(64)), -int(source.Uint64()>>source.Intn(64)))
	}
	slices.Sort(l)
	return slices.Compact(l)
}

// names is keys in their order, as the chapter's words tell it.
func names() []string {
	return []string{
		"\x00", "\x00\x00", strings.Repeat("\x00", 16), "\x00\x01", "\x01", "A", "a", "a\x00", "a\x00b", "aa",
		"aaaaaaaaaaaaaaa", "aaaaaaaaaaaaaaaa", "ab", "a\x7f", "a\x80", "a\xff", "b", "\x7f", "\x80", "\xc3\xa4", "\xff",
		"\xff\x00", "\xff\xff", strings.Repeat("\xff", 15), strings.Repeat("\xff", 16),
	}
}

// entries is an entry of each value and key.
func entries() []keys.Entry {
	var l []keys.Entry
	for _, v := range values() {
		for _, name := range names() {
			l = append(l, keys.Entry{Value: v, Key: name})
		}
	}
	return l
}

// valueBytes is eight bytes of a value and 2^63 more, the highest one first.
func valueBytes(value int) string {
	n := new(big.Int).Lsh(big.NewInt(1), 63)
	return string(n.Add(n, big.NewInt(int64(value))).FillBytes(make([]byte, 8)))
}

// order is that of two rows of bytes: byte by byte, the beginning of another one ahead of it.
func order(a, b string) int {
	for i := range len(a) {
		switch {
		case i == len(b) || a[i] > b[i]:
			return 1
		case a[i] < b[i]:
			return -1
		}
	}
	if len(a) < len(b) {
		return -1
	}
	return 0
}

// entryOrder is that of two entries.
func entryOrder(a, b keys.Entry) int {
	switch {
	case a.Value < b.Value:
		return -1
	case a.Value > b.Value:
		return 1
	}
	return order(a.Key, b.Key)
}

// put is an entry's bytes, of an entry that has some.
func put(t *testing.T, e keys.Entry) string {
	t.Helper()
	s, fault := keys.Put(e)
	if fault != api.OK {
		t.Fatalf("Put(%d %q) answers %v", e.Value, e.Key, fault)
	}
	return s
}

// P3.1: a key has from 1 to 16 bytes, any ones.
func TestCheck(t *testing.T) {
	for n := range 40 {
		want := api.OK
		if n < 1 || n > 16 {
			want = api.ErrKey
		}
		for _, b := range []string{"\x00", "a", "\x80", "\xff"} {
			if e := keys.Check(strings.Repeat(b, n)); e != want {
				t.Errorf("Check of %d times %q answers %v, want %v", n, b, e, want)
			}
		}
	}
	for b := range 256 {
		if e := keys.Check(string([]byte{byte(b)})); e != api.OK {
			t.Errorf("Check of the byte %d answers %v", b, e)
		}
	}
	for _, name := range names() {
		if e := keys.Check(name); e != api.OK {
			t.Errorf("Check(%q) answers %v", name, e)
		}
	}
	if e := keys.Check(strings.Repeat("a", 1<<20)); e != api.ErrKey {
		t.Errorf("Check of a long text answers %v", e)
	}
}

// P3.1: bytes as the document writes them.
func TestPutSamples(t *testing.T) {
	for _, c := range []struct {
		value int
		key   string
		want  string
	}{
		{1, "a", "\x80\x00\x00\x00\x00\x00\x00\x01a"},
		{0, "\x00", "\x80\x00\x00\x00\x00\x00\x00\x00\x00"},
		{-1, "\xff", "\x7f\xff\xff\xff\xff\xff\xff\xff\xff"},
		{math.MinInt, "ab", "\x00\x00\x00\x00\x00\x00\x00\x00ab"},
		{math.MaxInt, "0123456789abcdef", "\xff\xff\xff\xff\xff\xff\xff\xff0123456789abcdef"},
		{0x0102030405060708, "\x00\xff", "\x81\x02\x03\x04\x05\x06\x07\x08\x00\xff"},
		{-256, "k", "\x7f\xff\xff\xff\xff\xff\xff\x00k"},
	} {
		e := keys.Entry{Value: c.value, Key: c.key}
		if s := put(t, e); s != c.want {
			t.Errorf("Put(%d %q) answers %v, want %v", c.value, c.key, []byte(s), []byte(c.want))
		}
		if got, fault := keys.Get(c.want); got != e || fault != api.OK {
			t.Errorf("Get(%v) answers %v %v, want %v", []byte(c.want), got, fault, e)
		}
	}
}

// P3.1: an entry's bytes are its value's and its key, and are that entry's alone.
func TestPutGet(t *testing.T) {
	for _, e := range entries() {
		s := put(t, e)
		if want := valueBytes(e.Value) + e.Key; s != want {
			t.Errorf("Put(%d %q) answers %v, want %v", e.Value, e.Key, []byte(s), []byte(want))
		}
		if got, fault := keys.Get(s); got != e || fault != api.OK {
			t.Errorf("Get(%v) answers %v %v, want %v", []byte(s), got, fault, e)
		}
	}
}

// P3.1: no entry without a key.
func TestPutWrong(t *testing.T) {
	for _, key := range []string{"", strings.Repeat("a", 17), strings.Repeat("\x00", 17), strings.Repeat("\xff", 99)} {
		for _, v := range values() {
			if s, e := keys.Put(keys.Entry{Value: v, Key: key}); s != "" || e != api.ErrKey {
				t.Errorf("Put(%d %q) answers %q %v", v, key, s, e)
			}
		}
	}
}

// P3.1: bytes from nine to twenty-four are an entry's, whatever they are; no others are.
func TestGetLengths(t *testing.T) {
	source := rand.New(rand.NewSource(2))
	for n := range 60 {
		for range 20 {
			b := make([]byte, n)
			source.Read(b)
			checkGet(t, string(b))
		}
		checkGet(t, strings.Repeat("\x00", n))
		checkGet(t, strings.Repeat("\xff", n))
	}
	checkGet(t, strings.Repeat("a", 1<<20))
}

func checkGet(t *testing.T, s string) {
	t.Helper()
	e, fault := keys.Get(s)
	if len(s) < 9 || len(s) > 24 {
		if e != (keys.Entry{}) || fault != api.ErrForm {
			t.Errorf("Get of %d bytes answers %v %v", len(s), e, fault)
		}
		return
	}
	if fault != api.OK || valueBytes(e.Value) != s[:8] || e.Key != s[8:] {
		t.Errorf("Get(%v) answers %v %v", []byte(s), e, fault)
	}
	if again := put(t, e); again != s {
		t.Errorf("Put of the entry of %v answers %v", []byte(s), []byte(again))
	}
}

// P3.2 and P3.3: entries are ordered by value, then by key, and their bytes are in that order.
func TestCompare(t *testing.T) {
	l := entries()
	if !slices.IsSortedFunc(l, entryOrder) {
		t.Fatal("the test's entries are not in order")
	}
	bytes := make([]string, len(l))
	for i, e := range l {
		bytes[i] = put(t, e)
	}
	for i, a := range l {
		for j, b := range l {
			want := order(string([]byte{byte(i >> 8), byte(i)}), string([]byte{byte(j >> 8), byte(j)}))
			if got := keys.Compare(a, b); got != want {
				t.Fatalf("Compare(%d %q, %d %q) answers %d, want %d", a.Value, a.Key, b.Value, b.Key, got, want)
			}
			if got := order(bytes[i], bytes[j]); got != want {
				t.Fatalf("the bytes of %d %q and %d %q have the order %d, want %d", a.Value, a.Key, b.Value, b.Key, got, want)
			}
		}
	}
}

// P3.2: entries have their order of any keys, those that are none too.
func TestCompareNoKeys(t *testing.T) {
	long := strings.Repeat("a", 17)
	none := []string{"", strings.Repeat("\x00", 17), "a", long, long + "\x00", strings.Repeat("a", 1000), "ab", strings.Repeat("\xff", 17)}
	for _, v := range []int{math.MinInt, -1, 0, 1, math.MaxInt} {
		for _, w := range []int{math.MinInt, -1, 0, 1, math.MaxInt} {
			for _, x := range none {
				for _, y := range none {
					a, b := keys.Entry{Value: v, Key: x}, keys.Entry{Value: w, Key: strings.Clone(y)}
					if got, want := keys.Compare(a, b), entryOrder(a, b); got != want {
						t.Errorf("Compare(%d %q, %d %q) answers %d, want %d", v, x, w, y, got, want)
					}
				}
			}
		}
	}
}

// P3.2: bounds as the document writes them.
func TestBoundsSamples(t *testing.T) {
	const least, greatest = math.MinInt, math.MaxInt
	for _, c := range []struct {
		lo, hi   int
		from, to string
	}{
		{-1, 0, "\x7f\xff\xff\xff\xff\xff\xff\xff", "\x80\x00\x00\x00\x00\x00\x00\x01"},
		{5, 5, "\x80\x00\x00\x00\x00\x00\x00\x05", "\x80\x00\x00\x00\x00\x00\x00\x06"},
		{0, 255, "\x80\x00\x00\x00\x00\x00\x00\x00", "\x80\x00\x00\x00\x00\x00\x01\x00"},
		{-1, -1, "\x7f\xff\xff\xff\xff\xff\xff\xff", "\x80\x00\x00\x00\x00\x00\x00\x00"},
		{least, least, "\x00\x00\x00\x00\x00\x00\x00\x00", "\x00\x00\x00\x00\x00\x00\x00\x01"},
		{least, greatest, "\x00\x00\x00\x00\x00\x00\x00\x00", ""},
		{least, greatest - 1, "\x00\x00\x00\x00\x00\x00\x00\x00", "\xff\xff\xff\xff\xff\xff\xff\xff"},
		{greatest, greatest, "\xff\xff\xff\xff\xff\xff\xff\xff", ""},
		{greatest - 1, greatest - 1, "\xff\xff\xff\xff\xff\xff\xff\xfe", "\xff\xff\xff\xff\xff\xff\xff\xff"},
		{0, greatest, "\x80\x00\x00\x00\x00\x00\x00\x00", ""},
	} {
		from, to, e := keys.Bounds(c.lo, c.hi)
		if from != c.from || to != c.to || e != api.OK {
			t.Errorf("Bounds(%d, %d) answers %v %v %v, want %v %v", c.lo, c.hi, []byte(from), []byte(to), e, []byte(c.from), []byte(c.to))
		}
	}
}

// P3.2: bounds of all the values, and none of those whose first one is above the last one.
func TestBounds(t *testing.T) {
	for _, lo := range values() {
		for _, hi := range values() {
			from, to, e := keys.Bounds(lo, hi)
			wantFrom, wantTo, want := valueBytes(lo), "", api.OK
			switch {
			case lo > hi:
				wantFrom, want = "", api.ErrRange
			case hi < math.MaxInt:
				wantTo = valueBytes(hi + 1)
			}
			if from != wantFrom || to != wantTo || e != want {
				t.Errorf("Bounds(%d, %d) answers %v %v %v", lo, hi, []byte(from), []byte(to), e)
			}
		}
	}
}

// P3.3: an entry lies between bounds just if its value does.
func TestBoundsOfEntries(t *testing.T) {
	all := values()
	for _, lo := range all {
		for _, hi := range all {
			if lo > hi {
				continue
			}
			from, to, _ := keys.Bounds(lo, hi)
			for _, v := range append([]int{lo, hi, lo - 1, hi + 1}, all...) {
				for _, key := range []string{"\x00", "a", strings.Repeat("\x00", 16), strings.Repeat("\xff", 16)} {
					s := put(t, keys.Entry{Value: v, Key: key})
					within := order(s, from) >= 0 && (to == "" || order(s, to) < 0)
					if within != (lo <= v && v <= hi) {
						t.Fatalf("%d %q is within Bounds(%d, %d): %v", v, key, lo, hi, within)
					}
				}
			}
		}
	}
}
