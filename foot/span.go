package foot

import (
	"cmp"
	"slices"
)

// whole is numbers of which each one but the greatest has a next one.
type whole interface {
	~int | ~int8 | ~int16 | ~int32 | ~int64
}

// span is all numbers from lo to hi.
type span[N whole] struct{ lo, hi N }

// compare is the order of spans, by where they begin.
func (s span[N]) compare(other span[N]) int { return cmp.Compare(s.lo, other.lo) }

// joined is the fewest spans of the same numbers, rising. What begins behind the end of
// another one is not the least number, so that there is one ahead of it.
func joined[N whole](l []span[N]) []span[N] {
	var fewest []span[N]
	for _, s := range slices.SortedFunc(slices.Values(l), span[N].compare) {
		last := len(fewest) - 1
		if last < 0 || s.lo > fewest[last].hi && s.lo-1 > fewest[last].hi {
			fewest = append(fewest, s)
			continue
		}
		fewest[last].hi = max(fewest[last].hi, s.hi)
	}
	return fewest
}

// without is the numbers of joined spans that are in none of other ones, joined, too.
func without[N whole](l, others []span[N]) []span[N] {
	var left []span[N]
each:
	for _, s := range l {
		for len(others) > 0 && others[0].hi < s.lo { // nor does it reach those behind s
			others = others[1:]
		}
		for _, other := range others {
			switch {
			case other.lo > s.hi:
				left = append(left, s)
				continue each
			case other.lo > s.lo:
				left = append(left, span[N]{s.lo, other.lo - 1})
			}
			if other.hi >= s.hi {
				continue each
			}
			s.lo = other.hi + 1
		}
		left = append(left, s)
	}
	return left
}

// meet tells whether there is a number that is in both.
func meet[N whole](a, b []span[N]) bool {
	for _, s := range a {
		for _, other := range b {
			if s.lo <= other.hi && other.lo <= s.hi {
				return true
			}
		}
	}
	return false
}
