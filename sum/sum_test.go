package sum_test

import (
	"bytes"
	"hash/crc32"
	"math"
	"testing"

	"breviary/api"
	"breviary/sum"
)

// most is the greatest check sum.
const most = 4294967295

// slow is the check sum as the chapter's words tell it, bit by bit.
func slow(b []byte) int {
	register := uint32(most)
	for _, x := range b {
		register ^= uint32(x)
		for range 8 {
			out := register & 1
			register >>= 1
			if out == 1 {
				register ^= 3988292384
			}
		}
	}
	return int(^register)
}

// some is n bytes, others of another seed, the same each time.
func some(seed, n int) []byte {
	b := make([]byte, n)
	x := uint64(seed)*0x9e3779b97f4a7c15 + 1
	for i := range b {
		x = x*6364136223846793005 + 1442695040888963407
		b[i] = byte(x >> 56)
	}
	return b
}

// samples is rows of bytes of all lengths up to 300, and a long one.
func samples() [][]byte {
	l := [][]byte{nil, {}, {0}, {255}, {0, 0, 0, 0}, {255, 255, 255, 255}}
	for n := range 301 {
		l = append(l, some(n, n))
	}
	return append(l, some(7, api.MaxText+1))
}

// P1.1: what the chapter's words, its example, and the standard tell.
func TestSum(t *testing.T) {
	for s, want := range map[string]int{
		"": 0, "123456789": 3421780262, "a": 0xe8b7be43, "abc": 0x352441c2,
		"\x00": 0xd202ef8d, "\x00\x00\x00\x00": 0x2144df1c,
		"\xff\xff\xff\xff": most, "\x9d\x0a\xd9\x6d": 0,
	} {
		if n := sum.Sum([]byte(s)); n != want {
			t.Errorf("Sum(%q) = %d, want %d", s, n, want)
		}
	}
	if n := sum.Sum(nil); n != 0 {
		t.Errorf("Sum(nil) = %d", n)
	}
	for _, b := range samples() {
		n := sum.Sum(b)
		if n != slow(b) || n != int(crc32.ChecksumIEEE(b)) {
			t.Fatalf("Sum of %d bytes = %d, want %d", len(b), n, slow(b))
		}
	}
}

// P1.1: each byte turns the register as told, in each state of its lowest bits.
func TestSumOfTwoBytes(t *testing.T) {
	for i := range 1 << 16 {
		b := []byte{byte(i), byte(i >> 8)}
		if n := sum.Sum(b); n != slow(b) {
			t.Fatalf("Sum(%v) = %d, want %d", b, n, slow(b))
		}
		if n := sum.Sum(b[:1]); n != slow(b[:1]) {
			t.Fatalf("Sum(%v) = %d, want %d", b[:1], n, slow(b[:1]))
		}
	}
}

// P1.1: bytes cut at any place have the sum of the whole.
func TestMore(t *testing.T) {
	for _, b := range samples()[:100] {
		for cut := 0; cut <= len(b); cut++ {
			n, e := sum.More(sum.Sum(b[:cut]), b[cut:])
			if n != sum.Sum(b) || e != api.OK {
				t.Fatalf("More of %d bytes cut at %d = %d, %v", len(b), cut, n, e)
			}
		}
	}
}

// P1.1: the least and the greatest sum go on as those of bytes that have them.
func TestMoreOfEdges(t *testing.T) {
	for first, ahead := range map[int]string{0: "\x9d\x0a\xd9\x6d", most: "\xff\xff\xff\xff"} {
		for _, b := range samples() {
			n, e := sum.More(first, b)
			if want := slow(append([]byte(ahead), b...)); n != want || e != api.OK {
				t.Fatalf("More(%d, %d bytes) = %d, %v, want %d", first, len(b), n, e, want)
			}
		}
	}
	for _, first := range []int{0, 1, 3421780262, most - 1, most} {
		if n, e := sum.More(first, nil); n != first || e != api.OK {
			t.Errorf("More(%d, nothing) = %d, %v", first, n, e)
		}
	}
}

// P1.1, R1: a sum that is none is refused, and nothing is told with that.
func TestMoreOfNoSum(t *testing.T) {
	for _, first := range []int{-1, most + 1, -most, -most - 1, 1 << 40, 1<<40 + 5, math.MinInt, math.MaxInt} {
		for _, b := range [][]byte{nil, {}, {1}, some(1, 20)} {
			if n, e := sum.More(first, b); n != 0 || e != api.ErrRange {
				t.Errorf("More(%d, %v) = %d, %v", first, b, n, e)
			}
		}
	}
}

// P1.2: the bytes, and their sum, the lowest byte first.
func TestSeal(t *testing.T) {
	for s, want := range map[string]string{
		"": "\x00\x00\x00\x00", "123456789": "123456789\x26\x39\xf4\xcb",
		"\xff\xff\xff\xff": "\xff\xff\xff\xff\xff\xff\xff\xff", "\x9d\x0a\xd9\x6d": "\x9d\x0a\xd9\x6d\x00\x00\x00\x00",
	} {
		if b := sum.Seal([]byte(s)); string(b) != want {
			t.Errorf("Seal(%q) = %q, want %q", s, b, want)
		}
	}
	for _, b := range samples() {
		n := slow(b)
		want := append(bytes.Clone(b), byte(n), byte(n/256), byte(n/65536), byte(n/16777216))
		if s := sum.Seal(b); !bytes.Equal(s, want) {
			t.Fatalf("Seal of %d bytes is not these and their sum", len(b))
		}
	}
}

// P1.2: fewer than four bytes are not of the form, whatever they are.
func TestOpenOfFew(t *testing.T) {
	for n := range 4 {
		for _, b := range [][]byte{make([]byte, n), bytes.Repeat([]byte{255}, n), some(n, n), sum.Seal(nil)[:n]} {
			if o, e := sum.Open(b); len(o) != 0 || e != api.ErrForm {
				t.Errorf("Open(%v) = %v, %v", b, o, e)
			}
		}
	}
	if o, e := sum.Open(nil); len(o) != 0 || e != api.ErrForm {
		t.Errorf("Open(nil) = %v, %v", o, e)
	}
}

// P1.2, R1: four bytes that are not the sum are refused, and nothing is told with that.
func TestOpenOfWrongSum(t *testing.T) {
	for _, b := range samples()[:60] {
		s := sum.Seal(b)
		n := len(b)
		wrong := [][]byte{
			append(bytes.Clone(s), 0),
			append([]byte{1}, s...),
			append(bytes.Clone(b), s[n+3], s[n+2], s[n+1], s[n]),
		}
		for bit := range 8 * len(s) {
			x := bytes.Clone(s)
			x[bit/8] ^= 1 << (bit % 8)
			wrong = append(wrong, x)
		}
		for _, x := range wrong {
			if bytes.Equal(x, s) { // of a sum that is the same from behind
				continue
			}
			if o, e := sum.Open(x); len(o) != 0 || e != api.ErrSum {
				t.Fatalf("Open(%v) = %v, %v", x, o, e)
			}
		}
	}
	if o, e := sum.Open([]byte{255, 255, 255, 255}); len(o) != 0 || e != api.ErrSum {
		t.Errorf("Open of four bytes 255 = %v, %v", o, e)
	}
}

// P1.2, P1.3: what was sealed is answered; of four bytes that is nothing.
func TestOpenOfSeal(t *testing.T) {
	for _, b := range samples() {
		if o, e := sum.Open(sum.Seal(b)); !bytes.Equal(o, b) || e != api.OK {
			t.Fatalf("Open of Seal of %d bytes = %d bytes, %v", len(b), len(o), e)
		}
		if o, e := sum.Open(sum.Seal(sum.Seal(b))); !bytes.Equal(o, sum.Seal(b)) || e != api.OK {
			t.Fatalf("Open of Seal of Seal of %d bytes = %d bytes, %v", len(b), len(o), e)
		}
	}
	if o, e := sum.Open([]byte{0, 0, 0, 0}); len(o) != 0 || e != api.OK {
		t.Errorf("Open of four bytes 0 = %v, %v", o, e)
	}
}

// P1.3: what turns in four bytes, one behind the other, turns the sum. A sum's turn is
// that of each bit that turns, together: none is nothing, if no bit's is that of others.
func TestNearRowsDiffer(t *testing.T) {
	for n := 4; n <= 12; n++ {
		for at := 0; at+4 <= n; at++ {
			if bits := rank(turns(some(n, n), at)); bits != 32 {
				t.Errorf("%d bytes, four from %d on: the sum has %d of 32 bits of them", n, at, bits)
			}
		}
	}
}

// turns is how the sum turns with each bit of the four bytes at a place.
func turns(b []byte, at int) []uint32 {
	var l []uint32
	for bit := range 32 {
		x := bytes.Clone(b)
		x[at+bit/8] ^= 1 << (bit % 8)
		l = append(l, uint32(sum.Sum(x)^sum.Sum(b)))
	}
	return l
}

// rank is how many of the numbers are not others of them, turned by one another.
func rank(l []uint32) int {
	var by [32]uint32
	n := 0
	for _, x := range l {
		for bit := 31; bit >= 0 && x != 0; bit-- {
			if x>>bit&1 == 0 {
				continue
			}
			if by[bit] == 0 {
				by[bit] = x
				n++
				break
			}
			x ^= by[bit]
		}
	}
	return n
}

// P1.3: the same, of rows as they are.
func TestNearRowsDifferAsTheyAre(t *testing.T) {
	b := some(3, 40)
	for seed := range 2000 {
		at := seed % 37
		turn := some(seed, 4)
		x := bytes.Clone(b)
		for i := range 4 {
			x[at+i] ^= turn[i]
		}
		if !bytes.Equal(x, b) && sum.Sum(x) == sum.Sum(b) {
			t.Fatalf("two rows that differ from %d on by %v have one sum", at, turn)
		}
	}
	for first := range 1 << 16 {
		x := bytes.Clone(b)
		x[9] ^= byte(first)
		x[12] ^= byte(first >> 8)
		if first != 0 && sum.Sum(x) == sum.Sum(b) {
			t.Fatalf("two rows that differ at 9 and 12 by %d have one sum", first)
		}
	}
}

// R2: what is handed in, and what stands behind its length, stays as it was.
func TestNothingIsWrittenInto(t *testing.T) {
	room := append(sum.Seal(some(5, 20)), some(6, 30)...)
	was := bytes.Clone(room)
	for n := range len(room) {
		sum.Sum(room[:n])
		sum.More(9, room[:n])
		sum.Seal(room[:n])
		sum.Open(room[:n])
		if !bytes.Equal(room, was) {
			t.Fatalf("%d bytes: they, or what stands behind them, were written into", n)
		}
	}
}

// R2: what is answered is the caller's: neither it nor what was handed in turns with the other.
func TestAnswersAreNew(t *testing.T) {
	b := some(5, 20)
	s := sum.Seal(b)
	o, _ := sum.Open(s)
	was := bytes.Clone(b)
	again := bytes.Clone(s)
	for i := range o {
		o[i] ^= 255
	}
	if !bytes.Equal(s, again) {
		t.Error("what Open answers is what it was handed")
	}
	for i := range s {
		s[i] ^= 255
	}
	if !bytes.Equal(b, was) {
		t.Error("what Seal answers is what it was handed")
	}
	if !bytes.Equal(sum.Seal(b), again) {
		t.Error("Seal does not answer the same again")
	}
}
