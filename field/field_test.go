package field_test

import (
	"bytes"
	"math"
	"math/big"
	"math/rand"
	"slices"
	"strings"
	"testing"

	"breviary/api"
	"breviary/field"
)

// groups is a number's groups as the chapter's words tell them.
func groups(n *big.Int) []byte {
	var b []byte
	for n = new(big.Int).Set(n); ; {
		low := new(big.Int)
		n.DivMod(n, big.NewInt(128), low)
		if n.Sign() == 0 {
			return append(b, byte(low.Int64()))
		}
		b = append(b, byte(low.Int64()+128))
	}
}

// known is the number whose groups stand first in the bytes, and how many they are; nil, if none's do.
func known(b []byte) (*big.Int, int) {
	n, unit := new(big.Int), big.NewInt(1)
	for i, x := range b {
		n.Add(n, new(big.Int).Mul(unit, big.NewInt(int64(x%128))))
		unit.Mul(unit, big.NewInt(128))
		if x >= 128 {
			continue
		}
		if n.BitLen() > 64 || !bytes.Equal(groups(n), b[:i+1]) {
			return nil, 0
		}
		return n, i + 1
	}
	return nil, 0
}

// twice is what of a number is written as groups.
func twice(n int) *big.Int {
	b := big.NewInt(int64(n))
	if n < 0 {
		b.Sub(big.NewInt(-1), b)
		return b.Mul(b, big.NewInt(2)).Add(b, big.NewInt(1))
	}
	return b.Mul(b, big.NewInt(2))
}

// numbers is numbers of all sizes, of both signs, and those beside where groups become more.
func numbers() []int {
	l := []int{0, 1, 2, 126, 127, 128, 129, 255, 256, 300, 16383, 16384, math.MaxInt, math.MinInt}
	for bit := range 64 {
		for near := -2; near <= 2; near++ {
			l = append(l, 1<<bit+near, -1<<bit+near)
		}
	}
	source := rand.New(rand.NewSource(1))
	for range 300 {
		l = append(l, int(source.Uint64()>>source.Intn(64)), -int(source.Uint64()>>source.Intn(64)))
	}
	return l
}

// wrong is bytes at whose beginning no groups stand.
func wrong() []string {
	l := []string{
		"", "\x80", "\xff", "\xff\xff", "\x80\x00", "\x81\x00", "\xff\x00", "\xff\xff\x00", "\x80\x80\x00", "\x80\x00\x01",
		strings.Repeat("\xff", 9), strings.Repeat("\xff", 10), strings.Repeat("\x80", 9), strings.Repeat("\x80", 10),
		strings.Repeat("\xff", 9) + "\x00", strings.Repeat("\xff", 9) + "\x02", strings.Repeat("\xff", 9) + "\x7f",
		strings.Repeat("\x80", 9) + "\x02", strings.Repeat("\x80", 9) + "\x40", strings.Repeat("\x80", 9) + "\x00",
		strings.Repeat("\xff", 9) + "\x81\x00", strings.Repeat("\xff", 9) + "\x81\x01", strings.Repeat("\x80", 9) + "\x81",
		strings.Repeat("\x80", 9) + "\x81\x00", strings.Repeat("\x80", 10) + "\x00", strings.Repeat("\x80", 10) + "\x01",
		strings.Repeat("\xff", 10) + "\x01", strings.Repeat("\xff", 99) + "\x01", strings.Repeat("\x80", 99) + "\x01",
		strings.Repeat("\x80", 127) + "\x01", strings.Repeat("\x80", 128) + "\x01", strings.Repeat("\x80", 9999),
	}
	return l
}

// written is what a call writes into a new writer.
func written(t *testing.T, write func(*field.Writer) api.Errno) []byte {
	t.Helper()
	var w field.Writer
	if e := write(&w); e != api.OK {
		t.Fatalf("writing answers %v", e)
	}
	return w.Bytes()
}

func uintBytes(t *testing.T, n int) []byte {
	t.Helper()
	return written(t, func(w *field.Writer) api.Errno { return w.Uint(n) })
}

func intBytes(t *testing.T, n int) []byte {
	t.Helper()
	return written(t, func(w *field.Writer) api.Errno { return w.Int(n) })
}

func textBytes(t *testing.T, s string) []byte {
	t.Helper()
	return written(t, func(w *field.Writer) api.Errno { return w.Text(s) })
}

// P2.1: a number's groups, and nothing of one below 0.
func TestWriteUint(t *testing.T) {
	for n, want := range map[int]string{
		0: "\x00", 1: "\x01", 127: "\x7f", 128: "\x80\x01", 300: "\xac\x02", 16383: "\xff\x7f", 16384: "\x80\x80\x01",
		1<<63 - 1: "\xff\xff\xff\xff\xff\xff\xff\xff\x7f", 1 << 62: "\x80\x80\x80\x80\x80\x80\x80\x80\x40",
	} {
		if b := uintBytes(t, n); string(b) != want {
			t.Errorf("Uint(%d) writes %v, want %v", n, b, []byte(want))
		}
	}
	for _, n := range numbers() {
		var w field.Writer
		e, b := w.Uint(n), w.Bytes()
		switch {
		case n < 0:
			if e != api.ErrRange || len(b) != 0 {
				t.Errorf("Uint(%d) = %v, and writes %v", n, e, b)
			}
		case e != api.OK || !bytes.Equal(b, groups(big.NewInt(int64(n)))):
			t.Errorf("Uint(%d) = %v, and writes %v", n, e, b)
		}
	}
}

// P2.1: groups of the number twice, or of -1 less it, twice, and 1.
func TestWriteInt(t *testing.T) {
	for n, want := range map[int]string{
		0: "\x00", -1: "\x01", 1: "\x02", -2: "\x03", 63: "\x7e", -64: "\x7f", 64: "\x80\x01", -65: "\x81\x01",
		1<<63 - 1: "\xfe\xff\xff\xff\xff\xff\xff\xff\xff\x01", -1 << 63: "\xff\xff\xff\xff\xff\xff\xff\xff\xff\x01",
	} {
		if b := intBytes(t, n); string(b) != want {
			t.Errorf("Int(%d) writes %v, want %v", n, b, []byte(want))
		}
	}
	for _, n := range numbers() {
		if b := intBytes(t, n); !bytes.Equal(b, groups(twice(n))) {
			t.Errorf("Int(%d) writes %v, want %v", n, b, groups(twice(n)))
		}
	}
}

// P2.1: how many bytes a text has, and these, up to 65536.
func TestWriteText(t *testing.T) {
	for s, want := range map[string]string{"": "\x00", "ab": "\x02ab", "\x00\xff\x80": "\x03\x00\xff\x80", "é": "\x02\xc3\xa9"} {
		if b := textBytes(t, s); string(b) != want {
			t.Errorf("Text(%q) writes %q, want %q", s, b, want)
		}
	}
	for _, n := range []int{1, 127, 128, 300, 16383, 16384, 65535, 65536} {
		s := strings.Repeat("x", n)
		if b := textBytes(t, s); string(b) != string(groups(big.NewInt(int64(n))))+s {
			t.Errorf("Text of %d bytes writes %d bytes, not its number and these", n, len(b))
		}
	}
}

// P2.1, R1: with an error nothing is written, and what was written stays.
func TestWriteWrong(t *testing.T) {
	var w field.Writer
	for range 2 {
		for _, n := range []int{-1, -2, -300, math.MinInt} {
			if e := w.Uint(n); e != api.ErrRange {
				t.Errorf("Uint(%d) = %v", n, e)
			}
		}
		for _, n := range []int{65537, 65538, 1 << 17} {
			if e := w.Text(strings.Repeat("x", n)); e != api.ErrSize {
				t.Errorf("Text of %d bytes = %v", n, e)
			}
		}
		if b := w.Bytes(); len(b) != 0 && string(b) != "\x02ab" {
			t.Errorf("there stands %v", b)
		}
		if len(w.Bytes()) == 0 {
			w.Text("ab")
		}
	}
	if b := w.Bytes(); string(b) != "\x02ab" {
		t.Errorf("there stands %v", b)
	}
}

// P2.1: all that was written, in order, whenever that is asked.
func TestBytes(t *testing.T) {
	var w field.Writer
	if b := w.Bytes(); len(b) != 0 {
		t.Errorf("a writer's zero value has written %v", b)
	}
	var want []byte
	for i, n := range numbers() {
		w.Int(n)
		want = append(want, groups(twice(n))...)
		if n >= 0 {
			w.Uint(n)
			want = append(want, groups(big.NewInt(int64(n)))...)
		}
		s := strings.Repeat("s", i)
		w.Text(s)
		want = append(append(want, groups(big.NewInt(int64(i)))...), s...)
		if b := w.Bytes(); !bytes.Equal(b, want) {
			t.Fatalf("behind %d rounds there stand %d bytes, want %d", i+1, len(b), len(want))
		}
	}
}

// P2.1, R2: a nil writer's error is ahead of all else.
func TestNilWriter(t *testing.T) {
	var w *field.Writer
	for _, n := range []int{0, 5, -1, math.MinInt} {
		if e := w.Uint(n); e != api.ErrNil {
			t.Errorf("Uint(%d) = %v", n, e)
		}
		if e := w.Int(n); e != api.ErrNil {
			t.Errorf("Int(%d) = %v", n, e)
		}
	}
	for _, s := range []string{"", "ab", strings.Repeat("x", 65537)} {
		if e := w.Text(s); e != api.ErrNil {
			t.Errorf("Text of %d bytes = %v", len(s), e)
		}
	}
	if b := w.Bytes(); len(b) != 0 {
		t.Errorf("Bytes() = %v", b)
	}
}

// P2.2: the number, or what is wrong with it, whatever stands behind.
func TestReadUint(t *testing.T) {
	for s, want := range map[string]int{
		"\x00": 0, "\x7f": 127, "\x80\x01": 128, "\xac\x02": 300, "\xff\xff\xff\xff\xff\xff\xff\xff\x7f": 1<<63 - 1,
	} {
		r := field.Read([]byte(s + "\x80\x00"))
		if n, e := r.Uint(); n != want || e != api.OK || r.Left() != 2 {
			t.Errorf("of %v Uint() = %d, %v, and %d bytes are left", []byte(s), n, e, r.Left())
		}
	}
	for s, want := range map[string]api.Errno{
		"\x80\x80\x80\x80\x80\x80\x80\x80\x80\x01":         api.ErrRange,
		"\x81\x80\x80\x80\x80\x80\x80\x80\x80\x01":         api.ErrRange,
		"\xff\xff\xff\xff\xff\xff\xff\xff\xff\x01":         api.ErrRange,
		"\xff\xff\xff\xff\xff\xff\xff\xff\xff\x01\xff\x00": api.ErrRange,
		"\xff\xff\xff\xff\xff\xff\xff\xff\xff\x02":         api.ErrForm,
		"\x80\x80\x80\x80\x80\x80\x80\x80\x80\x02":         api.ErrForm,
		"\x80\x00": api.ErrForm,
	} {
		r := field.Read([]byte(s))
		for range 2 {
			if n, e := r.Uint(); n != 0 || e != want || r.Left() != len(s) {
				t.Errorf("of %v Uint() = %d, %v, and %d bytes are left", []byte(s), n, e, r.Left())
			}
		}
	}
}

// P2.2: the number, up to the least and the greatest, whatever stands behind.
func TestReadInt(t *testing.T) {
	for s, want := range map[string]int{
		"\x00": 0, "\x01": -1, "\x02": 1, "\x7e": 63, "\x7f": -64, "\x80\x01": 64, "\x81\x01": -65,
		"\xfe\xff\xff\xff\xff\xff\xff\xff\x7f":     1<<62 - 1,
		"\x80\x80\x80\x80\x80\x80\x80\x80\x80\x01": 1 << 62,
		"\x81\x80\x80\x80\x80\x80\x80\x80\x80\x01": -1<<62 - 1,
		"\xfe\xff\xff\xff\xff\xff\xff\xff\xff\x01": math.MaxInt,
		"\xff\xff\xff\xff\xff\xff\xff\xff\xff\x01": math.MinInt,
	} {
		r := field.Read([]byte(s + "\x80\x00"))
		if n, e := r.Int(); n != want || e != api.OK || r.Left() != 2 {
			t.Errorf("of %v Int() = %d, %v, and %d bytes are left", []byte(s), n, e, r.Left())
		}
	}
}

// P2.2: the text, if it is not longer than most, nor than what is left.
func TestReadText(t *testing.T) {
	long := strings.Repeat("y", 70000)
	for _, c := range []struct {
		b    string
		most int
		want string
		e    api.Errno
		left int
	}{
		{"\x02ab", 2, "ab", api.OK, 0}, {"\x02ab", 3, "ab", api.OK, 0}, {"\x02abc", math.MaxInt, "ab", api.OK, 1},
		{"\x00", 0, "", api.OK, 0}, {"\x00\x80", 0, "", api.OK, 1}, {"\x00", 1, "", api.OK, 0},
		{"\x02ab", 1, "", api.ErrSize, 3}, {"\x02ab", 0, "", api.ErrSize, 3}, {"\x02ab", -1, "", api.ErrSize, 3},
		{"\x00", -1, "", api.ErrSize, 1}, {"\x00", math.MinInt, "", api.ErrSize, 1},
		{"\x02a", 2, "", api.ErrForm, 2}, {"\x02", 2, "", api.ErrForm, 1}, {"\x02", 1, "", api.ErrSize, 1}, {"\x02a", 1, "", api.ErrSize, 2},
		{"", 9, "", api.ErrForm, 0}, {"", -1, "", api.ErrForm, 0}, {"\x80\x00", 9, "", api.ErrForm, 2}, {"\x80\x00", -1, "", api.ErrForm, 2},
		{"\x80", 0, "", api.ErrForm, 1},
		{"\xff\xff\xff\xff\xff\xff\xff\xff\xff\x01", -1, "", api.ErrRange, 10},
		{"\x80\x80\x80\x80\x80\x80\x80\x80\x80\x01ab", math.MaxInt, "", api.ErrRange, 12},
		{"\xff\xff\xff\xff\xff\xff\xff\xff\x7fab", math.MaxInt, "", api.ErrForm, 11},
		{"\xff\xff\xff\xff\xff\xff\xff\xff\x7fab", math.MaxInt - 1, "", api.ErrSize, 11},
		{"\xf0\xa2\x04" + long, 70000, long, api.OK, 0}, {"\xf0\xa2\x04" + long, 69999, "", api.ErrSize, 70003},
		{"\xf0\xa2\x04" + long[1:], 70000, "", api.ErrForm, 70002},
		{"\xf0\xa2\x04" + long + "z", math.MaxInt, long, api.OK, 1},
	} {
		r := field.Read([]byte(c.b))
		if s, e := r.Text(c.most); s != c.want || e != c.e || r.Left() != c.left {
			t.Errorf("of %.20q (%d bytes) Text(%d) = %.20q, %v, and %d bytes are left", c.b, len(c.b), c.most, s, e, r.Left())
		}
	}
}

// P2.2, R1: where no groups stand, nothing is read, and the reader stays where it is.
func TestReadWrong(t *testing.T) {
	for _, s := range wrong() {
		for _, ahead := range []string{"", "\x05"} {
			r := field.Read([]byte(ahead + s))
			if ahead != "" {
				r.Uint()
			}
			for range 2 {
				if n, e := r.Uint(); n != 0 || e != api.ErrForm || r.Left() != len(s) {
					t.Errorf("of %.20q Uint() = %d, %v, and %d bytes are left", s, n, e, r.Left())
				}
				if n, e := r.Int(); n != 0 || e != api.ErrForm || r.Left() != len(s) {
					t.Errorf("of %.20q Int() = %d, %v, and %d bytes are left", s, n, e, r.Left())
				}
				if x, e := r.Text(math.MaxInt); x != "" || e != api.ErrForm || r.Left() != len(s) {
					t.Errorf("of %.20q Text() = %q, %v, and %d bytes are left", s, x, e, r.Left())
				}
			}
		}
	}
}

// P2.2: a reader that stays where it is reads there what is right.
func TestReadBehindAnError(t *testing.T) {
	r := field.Read([]byte("\x03abc\x80\x80\x80\x80\x80\x80\x80\x80\x80\x01\x02\x07"))
	if s, e := r.Text(2); s != "" || e != api.ErrSize {
		t.Errorf("Text(2) = %q, %v", s, e)
	}
	if s, e := r.Text(3); s != "abc" || e != api.OK {
		t.Errorf("Text(3) = %q, %v", s, e)
	}
	if n, e := r.Uint(); n != 0 || e != api.ErrRange {
		t.Errorf("Uint() = %d, %v", n, e)
	}
	if n, e := r.Int(); n != 1<<62 || e != api.OK {
		t.Errorf("Int() = %d, %v", n, e)
	}
	if s, e := r.Text(9); s != "" || e != api.ErrForm {
		t.Errorf("Text(9) = %q, %v", s, e)
	}
	if n, e := r.Uint(); n != 2 || e != api.OK {
		t.Errorf("Uint() = %d, %v", n, e)
	}
	if n, e := r.Int(); n != -4 || e != api.OK || r.Left() != 0 {
		t.Errorf("Int() = %d, %v, and %d bytes are left", n, e, r.Left())
	}
	if n, e := r.Uint(); n != 0 || e != api.ErrForm || r.Left() != 0 {
		t.Errorf("at the end Uint() = %d, %v, and %d bytes are left", n, e, r.Left())
	}
}

// P2.2: at all bytes what is read is as the words tell, as is how much is left.
func TestReadAll(t *testing.T) {
	source := rand.New(rand.NewSource(2))
	most := new(big.Int).SetUint64(math.MaxInt64)
	for range 30000 {
		b := some(source)
		n, size := known(b)
		r := field.Read(b)
		v, e := r.Uint()
		switch {
		case n == nil:
			if v != 0 || e != api.ErrForm || r.Left() != len(b) {
				t.Fatalf("of %v Uint() = %d, %v, and %d bytes are left", b, v, e, r.Left())
			}
		case n.Cmp(most) > 0:
			if v != 0 || e != api.ErrRange || r.Left() != len(b) {
				t.Fatalf("of %v Uint() = %d, %v, and %d bytes are left", b, v, e, r.Left())
			}
		case n.Int64() != int64(v) || e != api.OK || r.Left() != len(b)-size:
			t.Fatalf("of %v Uint() = %d, %v, and %d bytes are left", b, v, e, r.Left())
		}
		r = field.Read(b)
		v, e = r.Int()
		switch {
		case n == nil:
			if v != 0 || e != api.ErrForm || r.Left() != len(b) {
				t.Fatalf("of %v Int() = %d, %v, and %d bytes are left", b, v, e, r.Left())
			}
		case twice(v).Cmp(n) != 0 || e != api.OK || r.Left() != len(b)-size:
			t.Fatalf("of %v Int() = %d, %v, and %d bytes are left", b, v, e, r.Left())
		}
	}
}

// some is a few bytes, of which many have one of more behind them.
func some(source *rand.Rand) []byte {
	b := make([]byte, source.Intn(13))
	last := source.Intn(13)
	for i := range b {
		b[i] = []byte{0, 1, 2, 127, byte(source.Intn(128))}[source.Intn(5)]
		if i < last {
			b[i] += 128
		}
	}
	return b
}

// P2.2, R2: a reader's bytes are those that were there when it was made.
func TestReadAsItIsThen(t *testing.T) {
	b := []byte("\x02ab\xac\x02\x01")
	r := field.Read(b)
	clear(b)
	s, e := r.Text(9)
	n, f := r.Uint()
	m, g := r.Int()
	if s != "ab" || e != api.OK || n != 300 || f != api.OK || m != -1 || g != api.OK {
		t.Errorf("there stands %q, %v, %d, %v, %d, %v", s, e, n, f, m, g)
	}
}

// P2.2: how many bytes are not read.
func TestLeft(t *testing.T) {
	for _, b := range [][]byte{nil, {}, {1}, {128, 128}, make([]byte, 1000)} {
		if n := field.Read(b).Left(); n != len(b) {
			t.Errorf("of %d bytes %d are left", len(b), n)
		}
	}
	r := field.Read([]byte("\x80\x01\x02ab\x07\xff"))
	left := []int{r.Left()}
	r.Uint()
	left = append(left, r.Left())
	r.Text(9)
	left = append(left, r.Left())
	r.Int()
	left = append(left, r.Left())
	r.Uint()
	left = append(left, r.Left(), r.Left())
	if want := []int{7, 5, 2, 1, 1, 1}; !slices.Equal(left, want) {
		t.Errorf("there are left %v, want %v", left, want)
	}
}

// P2.2, R2: a nil reader's error is ahead of all else.
func TestNilReader(t *testing.T) {
	var r *field.Reader
	if n, e := r.Uint(); n != 0 || e != api.ErrNil {
		t.Errorf("Uint() = %d, %v", n, e)
	}
	if n, e := r.Int(); n != 0 || e != api.ErrNil {
		t.Errorf("Int() = %d, %v", n, e)
	}
	for _, most := range []int{-1, 0, 9} {
		if s, e := r.Text(most); s != "" || e != api.ErrNil {
			t.Errorf("Text(%d) = %q, %v", most, s, e)
		}
	}
	if n := r.Left(); n != 0 {
		t.Errorf("Left() = %d", n)
	}
}

// P2.3: what is written is read.
func TestWrittenIsRead(t *testing.T) {
	var w field.Writer
	texts := []string{"", "a", "\x80\x00", strings.Repeat("\xff", 127), strings.Repeat("b", 128), strings.Repeat("c", 65536)}
	for i, n := range numbers() {
		w.Int(n)
		w.Uint(n & math.MaxInt)
		w.Text(texts[i%5])
	}
	w.Text(texts[5])
	r := field.Read(w.Bytes())
	for i, n := range numbers() {
		v, e := r.Int()
		u, f := r.Uint()
		s, g := r.Text(api.MaxText)
		if v != n || e != api.OK || u != n&math.MaxInt || f != api.OK || s != texts[i%5] || g != api.OK {
			t.Fatalf("of %d and %q there is read %d, %v, %d, %v, %q, %v", n, texts[i%5], v, e, u, f, s, g)
		}
	}
	if s, e := r.Text(65536); s != texts[5] || e != api.OK || r.Left() != 0 {
		t.Errorf("of 65536 bytes there are read %d, %v, and %d bytes are left", len(s), e, r.Left())
	}
}

// P2.3: what is read is written as the same bytes.
func TestReadIsWritten(t *testing.T) {
	source := rand.New(rand.NewSource(3))
	for range 30000 {
		b := append(some(source), "some bytes behind"...)
		r := field.Read(b)
		if n, e := r.Uint(); e == api.OK && !bytes.Equal(uintBytes(t, n), b[:len(b)-r.Left()]) {
			t.Fatalf("of %v there is read %d, which is written as %v", b, n, uintBytes(t, n))
		}
		r = field.Read(b)
		if n, e := r.Int(); e == api.OK && !bytes.Equal(intBytes(t, n), b[:len(b)-r.Left()]) {
			t.Fatalf("of %v there is read %d, which is written as %v", b, n, intBytes(t, n))
		}
		r = field.Read(b)
		if s, e := r.Text(api.MaxText); e == api.OK && !bytes.Equal(textBytes(t, s), b[:len(b)-r.Left()]) {
			t.Fatalf("of %v there is read %q, which is written as %v", b, s, textBytes(t, s))
		}
	}
}

// R2: what is handed in stays as it was, with what stands behind its length.
func TestNothingIsWrittenInto(t *testing.T) {
	room := []byte("\x02ab\xac\x02\x01\x80\x00\xff\xff\xff")
	was := bytes.Clone(room)
	for n := range len(room) {
		r := field.Read(room[:n])
		r.Text(9)
		r.Uint()
		r.Int()
		r.Int()
		if !bytes.Equal(room, was) {
			t.Fatalf("%d bytes: they, or what stands behind them, were written into", n)
		}
	}
}

// R2: what Bytes answers is the caller's, and turns with nothing else.
func TestAnswersAreNew(t *testing.T) {
	var w field.Writer
	w.Text("abc")
	first, second := w.Bytes(), w.Bytes()
	clear(first)
	first = append(first, 9, 9, 9)
	w.Uint(5)
	if string(second) != "\x03abc" {
		t.Errorf("what was answered turned to %q", second)
	}
	if b := w.Bytes(); string(b) != "\x03abc\x05" {
		t.Errorf("there stands %q", b)
	}
	w.Uint(7)
	if string(first) != "\x00\x00\x00\x00\x09\x09\x09" {
		t.Errorf("what was answered turned to %q", first)
	}
}
