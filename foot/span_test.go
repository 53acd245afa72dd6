package foot

import (
	"math"
	"math/rand"
	"slices"
	"testing"
)

// small is all numbers of 8 bits that spans of them are of, one by one.
type small [256]bool

func smallOf(l []span[int8]) small {
	var m small
	for _, s := range l {
		for n := int(s.lo); n <= int(s.hi); n++ {
			m[n+128] = true
		}
	}
	return m
}

// spans is the fewest spans of these numbers.
func (m small) spans() []span[int8] {
	var l []span[int8]
	for i, is := range m {
		switch {
		case is && i > 0 && m[i-1]:
			l[len(l)-1].hi++
		case is:
			l = append(l, span[int8]{int8(i - 128), int8(i - 128)})
		}
	}
	return l
}

// anySmall is a few spans in no order, some of which overlap, or meet at the least or the greatest number.
func anySmall(r *rand.Rand) []span[int8] {
	var l []span[int8]
	width := 1 + r.Intn(40)
	for range r.Intn(12) {
		lo := r.Intn(256) - 128
		hi := min(lo+r.Intn(width), 127)
		switch r.Intn(12) {
		case 0:
			lo, hi = -128, -128+r.Intn(3)
		case 1:
			lo, hi = 127-r.Intn(3), 127
		}
		l = append(l, span[int8]{int8(lo), int8(hi)})
	}
	return l
}

// P9.1: what is joined is the fewest spans of the same numbers, rising, up to the least and the greatest number.
func TestJoinedIsTheFewest(t *testing.T) {
	r := rand.New(rand.NewSource(91))
	for range 20000 {
		l := anySmall(r)
		told := slices.Clone(l)
		if got, want := joined(l), smallOf(l).spans(); !slices.Equal(got, want) {
			t.Fatalf("joined(%v) is %v, and should be %v", l, got, want)
		}
		if !slices.Equal(l, told) {
			t.Fatalf("joined wrote %v into %v", l, told)
		}
	}
}

// P9.1: without leaves the numbers that are in no other span, and those joined.
func TestWithoutLeavesTheOthers(t *testing.T) {
	r := rand.New(rand.NewSource(92))
	for range 20000 {
		a, b := joined(anySmall(r)), joined(anySmall(r))
		left := smallOf(a)
		for i, is := range smallOf(b) {
			left[i] = left[i] && !is
		}
		if got, want := without(a, b), left.spans(); !slices.Equal(got, want) {
			t.Fatalf("without(%v, %v) is %v, and should be %v", a, b, got, want)
		}
	}
}

// P9.2: two lists meet where they have a number, both.
func TestMeetIsOneNumber(t *testing.T) {
	r := rand.New(rand.NewSource(93))
	for range 20000 {
		a, b := anySmall(r), anySmall(r)
		both := false
		m := smallOf(b)
		for i, is := range smallOf(a) {
			both = both || is && m[i]
		}
		if meet(a, b) != both || meet(b, a) != both {
			t.Fatalf("%v and %v meet: %v, %v, and should: %v", a, b, meet(a, b), meet(b, a), both)
		}
	}
}

// P9.1: very many spans are joined, and left out, in a time that grows about as they do.
func TestManySpans(t *testing.T) {
	const many = 1 << 18
	var even, odd []span[int]
	for i := range many {
		even = append(even, span[int]{4 * i, 4 * i})
		odd = append(odd, span[int]{4*i + 2, 4*i + 2})
	}
	if got := joined(slices.Concat(odd, even)); len(got) != 2*many {
		t.Errorf("%d spans that do not meet become %d", 2*many, len(got))
	}
	if got := without(even, odd); !slices.Equal(got, even) {
		t.Error("without takes out what is in no other span")
	}
	if got := without([]span[int]{{math.MinInt, math.MaxInt}}, odd); len(got) != many+1 {
		t.Errorf("all numbers without %d single ones are %d spans", many, len(got))
	}
}
