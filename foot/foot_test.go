package foot_test

import (
	"math"
	"math/rand"
	"slices"
	"strings"
	"testing"

	"breviary/api"
	"breviary/foot"
)

const least, greatest = math.MinInt, math.MaxInt

// readRow and the like are claims.
func readRow(key string) api.Claim  { return api.Claim{Col: -1, Key: key} }
func writeRow(key string) api.Claim { return api.Claim{Write: true, Col: -1, Key: key} }

func reads(col, lo, hi int) api.Claim  { return api.Claim{Col: col, Lo: lo, Hi: hi} }
func writes(col, lo, hi int) api.Claim { return api.Claim{Write: true, Col: col, Lo: lo, Hi: hi} }

type claims = []api.Claim

// made is the footprint of claims, which has to be one.
func made(t *testing.T, l ...api.Claim) foot.Foot {
	t.Helper()
	f, e := foot.New(l...)
	if e != api.OK {
		t.Fatalf("New(%v) answers %v", l, e)
	}
	return f
}

// wantClaims asks that a footprint has this normal form.
func wantClaims(t *testing.T, what string, f foot.Foot, want claims) {
	t.Helper()
	if got := f.Claims(); !slices.Equal(got, want) {
		t.Errorf("%s: Claims() is %v, and should be %v", what, got, want)
	}
	if got := f.Len(); got != len(want) {
		t.Errorf("%s: Len() is %d, and should be %d", what, got, len(want))
	}
}

// wantFault asks that New answers an error, and no footprint.
func wantFault(t *testing.T, want api.Errno, l ...api.Claim) {
	t.Helper()
	f, e := foot.New(l...)
	if e != want {
		t.Errorf("New(%v) answers %v, and should answer %v", l, e, want)
	}
	wantClaims(t, "beside an error", f, nil)
}

// wantPair asks what is told of two footprints, in either order.
func wantPair(t *testing.T, what string, a, b foot.Foot, aInB, bInA, conflict bool) {
	t.Helper()
	if foot.Within(a, b) != aInB || foot.Within(b, a) != bInA {
		t.Errorf("%s: within: %v, %v, and should be %v, %v", what, foot.Within(a, b), foot.Within(b, a), aInB, bInA)
	}
	if foot.Conflict(a, b) != conflict || foot.Conflict(b, a) != conflict {
		t.Errorf("%s: conflict: %v, %v, and should be %v", what, foot.Conflict(a, b), foot.Conflict(b, a), conflict)
	}
	if same := aInB && bInA; foot.Same(a, b) != same || foot.Same(b, a) != same {
		t.Errorf("%s: same: %v, %v, and should be %v", what, foot.Same(a, b), foot.Same(b, a), same)
	}
}

// P9.1: Check tells what is wrong with a claim.
func TestCheck(t *testing.T) {
	longest := strings.Repeat("k", api.MaxKey)
	for _, c := range []struct {
		claim api.Claim
		want  api.Errno
	}{
		{readRow("a"), api.OK},
		{writeRow("a"), api.OK},
		{readRow("\x00"), api.OK},
		{writeRow("\xff\x80"), api.OK},
		{readRow(longest), api.OK},
		{readRow(""), api.ErrKey},
		{writeRow(longest + "k"), api.ErrKey},
		{reads(0, 0, 0), api.OK},
		{writes(1, -5, 7), api.OK},
		{reads(2, least, greatest), api.OK},
		{writes(3, greatest, greatest), api.OK},
		{reads(3, least, least), api.OK},
		{reads(0, 1, 0), api.ErrRange},
		{writes(3, greatest, least), api.ErrRange},
		{reads(4, 0, 0), api.ErrRange},
		{reads(greatest, 0, 0), api.ErrRange},
		{reads(-2, 0, 0), api.ErrRange},
		{api.Claim{Col: -2, Key: "a"}, api.ErrRange},
		{api.Claim{Col: least, Key: "a"}, api.ErrRange},
		{api.Claim{Col: 4, Key: "a"}, api.ErrRange},
		{api.Claim{Col: 0, Key: "a", Lo: 1, Hi: 2}, api.ErrRange},
		{api.Claim{Write: true, Col: 3, Key: longest + "k", Lo: 1, Hi: 2}, api.ErrRange},
		{api.Claim{Col: -1, Key: "a", Lo: 1}, api.ErrRange},
		{api.Claim{Col: -1, Key: "a", Hi: 1}, api.ErrRange},
		{api.Claim{Col: -1, Key: "a", Lo: -1}, api.ErrRange},
		{api.Claim{Col: -1, Key: "a", Lo: least, Hi: greatest}, api.ErrRange},
		// several things are wrong: the number's error is named first
		{api.Claim{Col: -1, Lo: 1, Hi: 1}, api.ErrRange},
		{api.Claim{Col: -1, Key: longest + "k", Hi: -1}, api.ErrRange},
		{api.Claim{Col: -2}, api.ErrRange},
		{api.Claim{Col: 4, Key: longest + "k", Lo: 2, Hi: 1}, api.ErrRange},
		{api.Claim{Col: 2, Key: "a", Lo: 2, Hi: 1}, api.ErrRange},
	} {
		if got := foot.Check(c.claim); got != c.want {
			t.Errorf("Check(%v) answers %v, and should answer %v", c.claim, got, c.want)
		}
		wantNewAsCheck(t, c.claim, c.want)
	}
}

// wantNewAsCheck asks that New of a claim, behind good ones, fails as Check does.
func wantNewAsCheck(t *testing.T, c api.Claim, e api.Errno) {
	t.Helper()
	if e != api.OK {
		wantFault(t, e, c)
		wantFault(t, e, readRow("z"), reads(0, 1, 2), c)
		return
	}
	wantClaims(t, "one claim", made(t, c), claims{c})
}

// P9.1: New answers the error of the first claim that has one, and that ahead of ErrSize.
func TestNewTellsTheFirstFault(t *testing.T) {
	noKey, noRange := readRow(""), reads(0, 2, 1)
	wantFault(t, api.ErrKey, noKey, noRange)
	wantFault(t, api.ErrRange, noRange, noKey)
	wantFault(t, api.ErrKey, writeRow("a"), noKey, noRange, noKey)
	wantFault(t, api.ErrRange, writeRow("a"), reads(3, 1, 1), noRange, noKey, reads(4, 0, 0))
	many := apart(api.MaxClaim + 1)
	wantFault(t, api.ErrSize, many...)
	wantFault(t, api.ErrKey, append(many, noKey)...)
	wantFault(t, api.ErrRange, append(many, noRange)...)
	wantFault(t, api.ErrKey, append(claims{noKey}, many...)...)
}

// apart is so many claims, none of which meet.
func apart(n int) claims {
	var l claims
	for i := range n {
		l = append(l, reads(i%api.Cols, 2*i, 2*i))
	}
	return l
}

// P9.1: what is told becomes the normal form, whatever the order, and however often; P9.3: of which New is the same.
func TestNormalForm(t *testing.T) {
	for _, c := range []struct {
		what       string
		told, want claims
	}{
		{"nothing", nil, nil},
		{"a row", claims{readRow("a")}, claims{readRow("a")}},
		{"a row, read and written", claims{readRow("a"), writeRow("a")}, claims{writeRow("a")}},
		{"rows by their bytes", claims{readRow("b"), writeRow("\x80"), readRow("aa"), writeRow("a"), readRow("\xff"), readRow("a\x00"), writeRow("Z")},
			claims{writeRow("Z"), writeRow("a"), readRow("a\x00"), readRow("aa"), readRow("b"), writeRow("\x80"), readRow("\xff")}},
		{"keys of 1 and of 16 bytes", claims{readRow(strings.Repeat("\xfe", 16)), writeRow("\xfe"), writeRow("\xff"), readRow("\x00"), readRow(strings.Repeat("\x00", 16))},
			claims{readRow("\x00"), readRow(strings.Repeat("\x00", 16)), writeRow("\xfe"), readRow(strings.Repeat("\xfe", 16)), writeRow("\xff")}},
		{"all columns", claims{reads(3, 1, 2), writes(0, 5, 6), reads(0, 9, 9), writes(2, 0, 0), readRow("a"), reads(1, -3, 4), writes(3, 4, 4), reads(2, -7, -7)},
			claims{readRow("a"), writes(0, 5, 6), reads(0, 9, 9), reads(1, -3, 4), writes(2, 0, 0), reads(2, -7, -7), writes(3, 4, 4), reads(3, 1, 2)}},
		{"columns do not meet", claims{reads(0, 1, 2), reads(1, 3, 4), writes(2, 1, 4)}, claims{reads(0, 1, 2), reads(1, 3, 4), writes(2, 1, 4)}},
		{"reads that meet", claims{reads(0, 4, 9), reads(0, 1, 3)}, claims{reads(0, 1, 9)}},
		{"writes that meet", claims{writes(0, 4, 9), writes(0, 1, 3)}, claims{writes(0, 1, 9)}},
		{"one number is left out", claims{reads(1, 5, 9), reads(1, 1, 3)}, claims{reads(1, 1, 3), reads(1, 5, 9)}},
		{"one number is left out of writes", claims{writes(1, 5, 9), writes(1, 1, 3)}, claims{writes(1, 1, 3), writes(1, 5, 9)}},
		{"that number comes, too", claims{reads(1, 5, 9), reads(1, 1, 3), reads(1, 4, 4)}, claims{reads(1, 1, 9)}},
		{"one within another one", claims{reads(0, 1, 9), reads(0, 3, 4), reads(0, 12, 12)}, claims{reads(0, 1, 9), reads(0, 12, 12)}},
		{"several within one, and one behind them", claims{writes(0, 1, 9), writes(0, 2, 3), writes(0, 5, 6), writes(0, 9, 11)}, claims{writes(0, 1, 11)}},
		{"the same end, the same beginning", claims{reads(2, 1, 5), reads(2, 3, 5), reads(2, 1, 7), reads(2, 1, 1)}, claims{reads(2, 1, 7)}},
		{"written at the beginning", claims{reads(0, 1, 9), writes(0, 1, 3)}, claims{writes(0, 1, 3), reads(0, 4, 9)}},
		{"written from ahead of the beginning", claims{reads(0, 1, 9), writes(0, -3, 3)}, claims{writes(0, -3, 3), reads(0, 4, 9)}},
		{"written at the end", claims{reads(0, 1, 9), writes(0, 7, 9)}, claims{writes(0, 7, 9), reads(0, 1, 6)}},
		{"written beyond the end", claims{reads(0, 1, 9), writes(0, 7, 12)}, claims{writes(0, 7, 12), reads(0, 1, 6)}},
		{"written in the midst", claims{reads(0, 1, 9), writes(0, 5, 5)}, claims{writes(0, 5, 5), reads(0, 1, 4), reads(0, 6, 9)}},
		{"written all", claims{reads(0, 1, 9), writes(0, 1, 9)}, claims{writes(0, 1, 9)}},
		{"written all but the ends", claims{reads(0, 1, 9), writes(0, 2, 8)}, claims{writes(0, 2, 8), reads(0, 1, 1), reads(0, 9, 9)}},
		{"written around it", claims{reads(0, 1, 9), writes(0, 0, 10)}, claims{writes(0, 0, 10)}},
		{"written in two parts that meet", claims{reads(0, 1, 9), writes(0, 1, 4), writes(0, 5, 9)}, claims{writes(0, 1, 9)}},
		{"written beside it", claims{reads(0, 1, 9), writes(0, 10, 12), writes(0, -1, 0)}, claims{writes(0, -1, 0), writes(0, 10, 12), reads(0, 1, 9)}},
		{"one write over several reads", claims{reads(3, 1, 3), reads(3, 5, 7), reads(3, 9, 11), writes(3, 2, 10)}, claims{writes(3, 2, 10), reads(3, 1, 1), reads(3, 11, 11)}},
		{"several writes in one read", claims{writes(3, 2, 2), writes(3, 4, 5), writes(3, 8, 8), reads(3, 1, 9)}, claims{writes(3, 2, 2), writes(3, 4, 5), writes(3, 8, 8), reads(3, 1, 1), reads(3, 3, 3), reads(3, 6, 7), reads(3, 9, 9)}},
		{"written in another column", claims{reads(0, 1, 9), writes(1, 1, 9)}, claims{reads(0, 1, 9), writes(1, 1, 9)}},
		{"the least number", claims{reads(0, least, least)}, claims{reads(0, least, least)}},
		{"the greatest number", claims{writes(0, greatest, greatest)}, claims{writes(0, greatest, greatest)}},
		{"the least and the greatest one", claims{reads(0, greatest, greatest), reads(0, least, least)}, claims{reads(0, least, least), reads(0, greatest, greatest)}},
		{"the least one, twice as Lo", claims{reads(0, least, 4), reads(0, least, least)}, claims{reads(0, least, 4)}},
		{"the greatest one, twice as Hi", claims{writes(0, 4, greatest), writes(0, greatest, greatest)}, claims{writes(0, 4, greatest)}},
		{"met at the least one", claims{reads(1, least+1, -9), reads(1, least, least)}, claims{reads(1, least, -9)}},
		{"met at the greatest one", claims{reads(1, greatest, greatest), reads(1, 9, greatest-1)}, claims{reads(1, 9, greatest)}},
		{"one left out beside the least and the greatest one", claims{writes(1, least, least), writes(1, least+2, greatest-2), writes(1, greatest, greatest)}, claims{writes(1, least, least), writes(1, least+2, greatest-2), writes(1, greatest, greatest)}},
		{"all numbers in halves", claims{reads(2, 0, greatest), reads(2, least, -1)}, claims{reads(2, least, greatest)}},
		{"all but the least and the greatest one", claims{reads(2, least, greatest), writes(2, least, least), writes(2, greatest, greatest)}, claims{writes(2, least, least), writes(2, greatest, greatest), reads(2, least+1, greatest-1)}},
		{"the least and the greatest one alone", claims{reads(2, least, greatest), writes(2, least+1, greatest-1)}, claims{writes(2, least+1, greatest-1), reads(2, least, least), reads(2, greatest, greatest)}},
		{"all numbers, read and written", claims{reads(2, least, greatest), writes(2, least, greatest)}, claims{writes(2, least, greatest)}},
		{"the least one read, all written", claims{reads(2, least, least), reads(2, greatest, greatest), writes(2, least, greatest)}, claims{writes(2, least, greatest)}},
	} {
		wantToldAnyhow(t, c.what, c.told, c.want)
	}
}

// wantToldAnyhow asks that claims become a normal form, told in several orders, and several times.
func wantToldAnyhow(t *testing.T, what string, told, want claims) {
	t.Helper()
	back := slices.Clone(told)
	slices.Reverse(back)
	for how, l := range map[string]claims{"as told": told, "back": back, "twice": slices.Concat(told, back), "with its form": slices.Concat(want, told), "its form": want} {
		f := made(t, l...)
		wantClaims(t, what+", "+how, f, want)
		wantPair(t, what+", "+how, f, made(t, want...), true, true, hasWrite(want))
	}
}

// hasWrite tells whether something is written, so that the footprint conflicts with itself.
func hasWrite(l claims) bool {
	return slices.ContainsFunc(l, func(c api.Claim) bool { return c.Write })
}

// P9.1: the chapter's example.
func TestExample(t *testing.T) {
	f := made(t, readRow("a"), writeRow("a"), reads(0, 1, 3), reads(0, 4, 9), writes(0, 5, 6))
	wantClaims(t, "the example", f, claims{writeRow("a"), writes(0, 5, 6), reads(0, 1, 4), reads(0, 7, 9)})
}

// P9.1: claims told in parts that overlap are the same footprint as told whole.
func TestParts(t *testing.T) {
	whole := made(t, reads(1, -10, 10), writes(1, 3, 6), writes(0, least, greatest))
	parts := made(t, reads(1, -10, 2), writes(0, -1, greatest), reads(1, 1, 8), writes(1, 3, 5), reads(1, 8, 10), writes(1, 5, 6), writes(0, least, 5))
	wantPair(t, "in parts", whole, parts, true, true, true)
	wantClaims(t, "in parts", parts, whole.Claims())
}

// P9.1: a normal form of 64 claims is one, of 65 none, however many claims are told.
func TestSizes(t *testing.T) {
	var rowsOf64, wide claims
	for i := range api.MaxClaim {
		rowsOf64 = append(rowsOf64, readRow(string([]byte{'k', byte(i + 100)})))
	}
	for i := range 300 {
		wide = append(wide, reads(i%api.Cols, i-i%api.Cols, i-i%api.Cols+7), writeRow(string(rune('a'+i%20))))
	}
	cut := claims{reads(2, 0, 1000)} // each number that is written makes one claim more that reads
	for i := range 31 {
		cut = append(cut, writes(2, 10+2*i, 10+2*i))
	}
	for _, c := range []struct {
		what string
		told claims
		n    int
	}{
		{"64 values", apart(64), 64},
		{"64 rows", rowsOf64, 64},
		{"64 rows, twice, and read and written", slices.Concat(rowsOf64, rowsOf64, claims{writeRow("k\x64")}), 64},
		{"32 told, 63 come", cut, 63},
		{"600 told, 24 come", wide, 24},
		{"33 told, 64 come", append(slices.Clone(cut), readRow("a")), 64},
	} {
		f := made(t, c.told...)
		if f.Len() != c.n || len(f.Claims()) != c.n {
			t.Errorf("%s: Len() is %d, of Claims() %d", c.what, f.Len(), len(f.Claims()))
		}
		wantPair(t, c.what, f, made(t, f.Claims()...), true, true, hasWrite(c.told))
	}
	wantFault(t, api.ErrSize, apart(65)...)
	wantFault(t, api.ErrSize, append(rowsOf64, readRow("k"))...)
	wantFault(t, api.ErrSize, append(rowsOf64, writes(0, 0, 0))...)
	wantFault(t, api.ErrSize, append(cut, writes(2, 500, 500))...)
	wantFault(t, api.ErrSize, append(cut, readRow("a"), readRow("b"))...)
	wantFault(t, api.ErrSize, apart(5000)...)
}

// P9.1: Join has room for 64 claims, and for 65 not; they count once where both have them.
func TestJoinSizes(t *testing.T) {
	half, all := made(t, apart(32)...), made(t, apart(64)...)
	other := made(t, apart(64)[32:]...)
	wantJoined(t, "32 and 32", half, other, all.Claims())
	wantJoined(t, "64 and 32 of them", all, half, all.Claims())
	wantJoined(t, "64 and the same", all, all, all.Claims())
	wantJoined(t, "64 and nothing", all, foot.Foot{}, all.Claims())
	wantJoined(t, "64 and one that meets", all, made(t, writes(0, 0, 0)), made(t, append(apart(64), writes(0, 0, 0))...).Claims())
	var meet claims
	for i := range api.Cols {
		meet = append(meet, writes(i, 0, 200))
	}
	wantJoined(t, "64 and what they become", all, made(t, meet...), meet)
	wantNoJoin(t, "64 and one", all, made(t, readRow("a")))
	wantNoJoin(t, "64 and 63 of others", all, made(t, writeRow("a"), readRow("b"), writes(1, -9, -9)))
	var cuts claims
	between := claims{reads(2, -9, -1)}
	for i := range 32 {
		cuts = append(cuts, writes(2, 2*i, 2*i))
		between = append(between, reads(2, 2*i+1, 2*i+1))
	}
	wantJoined(t, "one that is cut into 32", made(t, cuts...), made(t, reads(2, -9, 62)), slices.Concat(cuts, between[:32]))
	wantNoJoin(t, "one that is cut into 33", made(t, cuts...), made(t, reads(2, -9, 63)))
	wantNoJoin(t, "one that is cut into 32, with a row", made(t, append(cuts, readRow("a"))...), made(t, reads(2, -9, 62)))
}

// wantNoJoin asks that Join answers ErrSize, and no footprint, and turns neither.
func wantNoJoin(t *testing.T, what string, a, b foot.Foot) {
	t.Helper()
	left, right := a.Claims(), b.Claims()
	for _, pair := range [][2]foot.Foot{{a, b}, {b, a}} {
		f, e := foot.Join(pair[0], pair[1])
		if e != api.ErrSize {
			t.Errorf("%s: Join answers %v, and should answer ErrSize", what, e)
		}
		wantClaims(t, what, f, nil)
	}
	wantClaims(t, what+", the first one", a, left)
	wantClaims(t, what+", the second one", b, right)
}

// wantJoined asks that Join has a normal form, in either order, has both within it, and turns neither.
func wantJoined(t *testing.T, what string, a, b foot.Foot, want claims) {
	t.Helper()
	left, right := a.Claims(), b.Claims()
	for _, pair := range [][2]foot.Foot{{a, b}, {b, a}} {
		f, e := foot.Join(pair[0], pair[1])
		if e != api.OK {
			t.Errorf("%s: Join answers %v", what, e)
			continue
		}
		wantClaims(t, what, f, want)
		if !foot.Within(a, f) || !foot.Within(b, f) {
			t.Errorf("%s: what is joined is not within Join: %v, %v", what, foot.Within(a, f), foot.Within(b, f))
		}
	}
	wantClaims(t, what+", the first one", a, left)
	wantClaims(t, what+", the second one", b, right)
}

// P9.1, P9.2: what Join, Within, Conflict and Same tell of two.
func TestPairs(t *testing.T) {
	for _, c := range []struct {
		what           string
		a, b, joined   claims
		in, back, cash bool // a within b, b within a, conflict
	}{
		{"two rows", claims{writeRow("a")}, claims{writeRow("b")}, claims{writeRow("a"), writeRow("b")}, false, false, false},
		{"a beginning of a key", claims{writeRow("a")}, claims{writeRow("aa")}, claims{writeRow("a"), writeRow("aa")}, false, false, false},
		{"both read a row", claims{readRow("a")}, claims{readRow("a")}, claims{readRow("a")}, true, true, false},
		{"one writes what the other one reads", claims{readRow("a")}, claims{writeRow("a")}, claims{writeRow("a")}, true, false, true},
		{"both write a row", claims{writeRow("a")}, claims{writeRow("a")}, claims{writeRow("a")}, true, true, true},
		{"more rows", claims{readRow("b")}, claims{readRow("a"), readRow("b"), writeRow("c")}, claims{readRow("a"), readRow("b"), writeRow("c")}, true, false, false},
		{"each has one more", claims{readRow("b"), readRow("d")}, claims{readRow("a"), readRow("b")}, claims{readRow("a"), readRow("b"), readRow("d")}, false, false, false},
		{"rows and values", claims{writeRow("a")}, claims{writes(0, least, greatest)}, claims{writeRow("a"), writes(0, least, greatest)}, false, false, false},
		{"two columns", claims{writes(0, 1, 2)}, claims{writes(1, 1, 2)}, claims{writes(0, 1, 2), writes(1, 1, 2)}, false, false, false},
		{"apart by none", claims{writes(0, 1, 2)}, claims{writes(0, 3, 4)}, claims{writes(0, 1, 4)}, false, false, false},
		{"apart by none, read and written", claims{reads(3, 1, 2)}, claims{writes(3, 3, 4)}, claims{writes(3, 3, 4), reads(3, 1, 2)}, false, false, false},
		{"one number is in both, both write", claims{writes(0, 1, 3)}, claims{writes(0, 3, 4)}, claims{writes(0, 1, 4)}, false, false, true},
		{"one number is in both, one writes", claims{writes(2, 1, 3)}, claims{reads(2, 3, 4)}, claims{writes(2, 1, 3), reads(2, 4, 4)}, false, false, true},
		{"one number is in both, both read", claims{reads(2, 1, 3)}, claims{reads(2, 3, 4)}, claims{reads(2, 1, 4)}, false, false, false},
		{"reads within reads", claims{reads(1, 2, 3), reads(1, 7, 7)}, claims{reads(1, 1, 7)}, claims{reads(1, 1, 7)}, true, false, false},
		{"reads within writes", claims{reads(1, 2, 3)}, claims{writes(1, 1, 7)}, claims{writes(1, 1, 7)}, true, false, true},
		{"writes within reads", claims{writes(1, 2, 3)}, claims{reads(1, 1, 7)}, claims{writes(1, 2, 3), reads(1, 1, 1), reads(1, 4, 7)}, false, false, true},
		{"reads within reads and writes", claims{reads(0, 1, 9)}, claims{reads(0, 0, 3), writes(0, 4, 4), reads(0, 5, 7), writes(0, 8, 12)}, claims{writes(0, 4, 4), writes(0, 8, 12), reads(0, 0, 3), reads(0, 5, 7)}, true, false, true},
		{"all but one number of the reads", claims{reads(0, 1, 9)}, claims{reads(0, 0, 3), reads(0, 5, 7), writes(0, 8, 12)}, claims{writes(0, 8, 12), reads(0, 0, 7)}, false, false, true},
		{"all but one number of the writes", claims{writes(0, 1, 9)}, claims{writes(0, 1, 4), writes(0, 6, 9), reads(0, 5, 5)}, claims{writes(0, 1, 9)}, false, true, true},
		{"read where it is written around", claims{reads(0, 5, 5)}, claims{writes(0, 1, 4), writes(0, 6, 9)}, claims{writes(0, 1, 4), writes(0, 6, 9), reads(0, 5, 5)}, false, false, false},
		{"the same numbers, read and written in part", claims{reads(0, 1, 9)}, claims{reads(0, 1, 8), writes(0, 9, 9)}, claims{writes(0, 9, 9), reads(0, 1, 8)}, true, false, true},
		{"all numbers, and the least one", claims{reads(0, least, least)}, claims{writes(0, least, greatest)}, claims{writes(0, least, greatest)}, true, false, true},
		{"all numbers, and the greatest one", claims{reads(0, greatest, greatest)}, claims{reads(0, least, greatest)}, claims{reads(0, least, greatest)}, true, false, false},
		{"all numbers, and all but the greatest one", claims{writes(0, least, greatest)}, claims{writes(0, least, greatest-1)}, claims{writes(0, least, greatest)}, false, true, true},
		{"all numbers in two parts", claims{reads(0, least, greatest)}, claims{reads(0, least, 0), writes(0, 1, greatest)}, claims{writes(0, 1, greatest), reads(0, least, 0)}, true, false, true},
		{"the least and the greatest number", claims{writes(3, least, least)}, claims{writes(3, greatest, greatest)}, claims{writes(3, least, least), writes(3, greatest, greatest)}, false, false, false},
		{"the last column alone", claims{readRow("a"), reads(0, 1, 2), reads(3, 5, 6)}, claims{readRow("a"), reads(0, 1, 2), writes(3, 6, 6)}, claims{readRow("a"), reads(0, 1, 2), writes(3, 6, 6), reads(3, 5, 5)}, false, false, true},
	} {
		a, b := made(t, c.a...), made(t, c.b...)
		wantPair(t, c.what, a, b, c.in, c.back, c.cash)
		wantJoined(t, c.what, a, b, c.joined)
	}
}

// P9.1, P9.2: one without claims, as New of nothing, or as the zero value, in each call.
func TestNothing(t *testing.T) {
	var zero foot.Foot
	for what, none := range map[string]foot.Foot{"the zero value": zero, "New()": made(t), "New of no claims": made(t, claims{}...)} {
		wantClaims(t, what, none, nil)
		wantPair(t, what+" and itself", none, none, true, true, false)
		wantPair(t, what+" and the zero value", none, zero, true, true, false)
		wantJoined(t, what+" and the zero value", none, zero, nil)
		for _, c := range []api.Claim{readRow("a"), writeRow("a"), reads(0, 0, 0), writes(0, 0, 0), writes(3, least, greatest)} {
			wantPair(t, what+" and one claim", none, made(t, c), true, false, false)
			wantJoined(t, what+" and one claim", none, made(t, c), claims{c})
		}
	}
}

// P9.3: who writes into what Claims told, or into what he told to New, turns no footprint.
func TestListsThatAreWrittenInto(t *testing.T) {
	told := claims{writeRow("b"), readRow("a"), reads(0, 4, 9), reads(0, 1, 3), writes(0, 5, 6)}
	want := claims{readRow("a"), writeRow("b"), writes(0, 5, 6), reads(0, 1, 4), reads(0, 7, 9)}
	before := slices.Clone(told)
	f := made(t, told...)
	if !slices.Equal(told, before) {
		t.Errorf("New turned what it was told, %v, into %v", before, told)
	}
	for i := range told {
		told[i] = writeRow("z")
	}
	wantClaims(t, "New's list was written into", f, want)
	l, copied := f.Claims(), f
	for i := range l {
		l[i] = writes(3, 7, 7)
	}
	wantClaims(t, "Claims' list was written into", f, want)
	wantClaims(t, "a copy", copied, want)
	wantPair(t, "after all", f, made(t, before...), true, true, true)
}

// P9.1: behind the end of what New is told stands what it does not touch.
func TestBehindTheEndOfAList(t *testing.T) {
	l := claims{reads(0, 3, 4), reads(0, 1, 2), writeRow("kept"), writes(9, 9, 9)}
	wantClaims(t, "two of four", made(t, l[:2]...), claims{reads(0, 1, 4)})
	if l[2] != writeRow("kept") || l[3] != writes(9, 9, 9) {
		t.Errorf("New wrote behind the end: %v", l)
	}
}

// P9.1: keys are kept as they were, though their bytes are a piece of a text.
func TestKeysOfAText(t *testing.T) {
	text := strings.Repeat("abc", 9)
	f := made(t, writeRow(text[1:2]), readRow(text[:16]), readRow(text[4:5]))
	wantClaims(t, "pieces of a text", f, claims{readRow("abcabcabcabcabca"), writeRow("b")})
}

// cells are the numbers of a column, in order, of which claims in tests are made: single
// ones, and between them all those that no claim begins or ends at.
var cells = func() [][2]int {
	l := [][2]int{{least, least}, {least + 1, least + 1}, {least + 2, least + 2}, {least + 3, -6}}
	for n := -5; n <= 5; n++ {
		l = append(l, [2]int{n, n})
	}
	return append(l, [2]int{6, greatest - 3}, [2]int{greatest - 2, greatest - 2}, [2]int{greatest - 1, greatest - 1}, [2]int{greatest, greatest})
}()

// rowKeys is the keys of which claims in tests are made, in order.
var rowKeys = []string{"a", "aa", "b", strings.Repeat("q", 16), "\x7f", "\x80", "\xff"}

// model is what is done to each thing: 0 nothing, 1 it is read, 2 it is written.
type model struct {
	rows [7]int
	cols [api.Cols][19]int
}

// claim adds a claim to a model.
func (m *model) claim(c api.Claim) {
	how := 1
	if c.Write {
		how = 2
	}
	if c.Col < 0 {
		i := slices.Index(rowKeys, c.Key)
		m.rows[i] = max(m.rows[i], how)
		return
	}
	for i, cell := range cells {
		if c.Lo <= cell[0] && cell[1] <= c.Hi {
			m.cols[c.Col][i] = max(m.cols[c.Col][i], how)
		}
	}
}

// claims is a model's normal form.
func (m *model) claims() claims {
	var l claims
	for i, how := range m.rows {
		if how > 0 {
			l = append(l, api.Claim{Write: how == 2, Col: -1, Key: rowKeys[i]})
		}
	}
	for col, done := range m.cols {
		for _, how := range []int{2, 1} {
			for i, d := range done {
				switch {
				case d == how && i > 0 && done[i-1] == how:
					l[len(l)-1].Hi = cells[i][1]
				case d == how:
					l = append(l, api.Claim{Write: how == 2, Col: col, Lo: cells[i][0], Hi: cells[i][1]})
				}
			}
		}
	}
	return l
}

// things is all that is done, one thing behind the other.
func (m *model) things() []int {
	l := slices.Clone(m.rows[:])
	for _, done := range m.cols {
		l = append(l, done[:]...)
	}
	return l
}

// within tells whether another model has all of this one.
func (m *model) within(other *model) bool {
	l := other.things()
	for i, how := range m.things() {
		if how > l[i] {
			return false
		}
	}
	return true
}

// conflict tells whether a thing is written by one, and touched by the other one.
func (m *model) conflict(other *model) bool {
	l := other.things()
	for i, how := range m.things() {
		if how*l[i] > 1 {
			return true
		}
	}
	return false
}

// anyClaim is a claim of what models know; more narrow ones, the greater narrow is.
func anyClaim(r *rand.Rand, narrow int) api.Claim {
	write := r.Intn(2) == 0
	if r.Intn(3) == 0 {
		return api.Claim{Write: write, Col: -1, Key: rowKeys[r.Intn(len(rowKeys))]}
	}
	lo, hi := anyEdge(r), anyEdge(r)
	for range narrow {
		hi = min(hi, max(lo, anyEdge(r)))
	}
	return api.Claim{Write: write, Col: r.Intn(api.Cols), Lo: min(lo, hi), Hi: max(lo, hi)}
}

// anyEdge is a number at which claims begin or end.
func anyEdge(r *rand.Rand) int {
	for {
		if cell := cells[r.Intn(len(cells))]; cell[0] == cell[1] {
			return cell[0]
		}
	}
}

// some is a few claims, and their model.
func some(r *rand.Rand, most int) (claims, *model) {
	var l claims
	m, narrow := &model{}, r.Intn(5)
	for range r.Intn(most + 1) {
		c := anyClaim(r, narrow)
		l = append(l, c)
		m.claim(c)
	}
	return l, m
}

// P9.1, P9.3: New, Claims and Len against a model that looks at each thing, one by one.
func TestNewAgainstModel(t *testing.T) {
	r := rand.New(rand.NewSource(9))
	for range 6000 {
		l, m := some(r, 30)
		want := m.claims()
		if len(want) > api.MaxClaim {
			t.Fatalf("the model has %d claims", len(want))
		}
		f := made(t, l...)
		wantClaims(t, "against the model", f, want)
		r.Shuffle(len(l), func(i, j int) { l[i], l[j] = l[j], l[i] })
		l = append(l, l[:r.Intn(len(l)+1)]...)
		wantClaims(t, "in another order", made(t, l...), want)
		wantClaims(t, "of its claims", made(t, f.Claims()...), want)
		if t.Failed() {
			t.Fatalf("told: %v", l)
		}
	}
}

// P9.1, P9.2, P9.3: Join, Within, Conflict and Same against models.
func TestPairsAgainstModel(t *testing.T) {
	r := rand.New(rand.NewSource(10))
	seen := [5]int{}
	for range 20000 {
		l, m := some(r, 1+r.Intn(6))
		k, n := some(r, 1+r.Intn(12))
		if r.Intn(3) == 0 { // so that one is within the other now and then
			k = append(k, l[:r.Intn(len(l)+1)]...)
			n = &model{}
			for _, c := range k {
				n.claim(c)
			}
		}
		a, b := made(t, l...), made(t, k...)
		wantPair(t, "against the model", a, b, m.within(n), n.within(m), m.conflict(n))
		both := *m
		for _, c := range k {
			both.claim(c)
		}
		wantJoined(t, "against the model", a, b, both.claims())
		for i, is := range []bool{m.within(n), m.conflict(n), m.within(n) && n.within(m), !m.within(n) && !n.within(m), !m.conflict(n)} {
			if is {
				seen[i]++
			}
		}
		if t.Failed() {
			t.Fatalf("told: %v and %v", l, k)
		}
	}
	if slices.Min(seen[:]) < 100 {
		t.Errorf("too few of some kind were tried: %v", seen)
	}
}

// P9.3: what is within something that does not conflict with a third one does not, either.
func TestWithinKeepsApart(t *testing.T) {
	r := rand.New(rand.NewSource(11))
	tried := 0
	for range 60000 {
		l, _ := some(r, 3)
		k, _ := some(r, 3)
		third, _ := some(r, 2)
		a, c := made(t, l...), made(t, third...)
		b, e := foot.Join(a, made(t, k...))
		if e != api.OK || !foot.Within(a, b) {
			t.Fatalf("%v and %v: Join answers %v, and has the first one: %v", l, k, e, foot.Within(a, b))
		}
		if foot.Conflict(b, c) || c.Len() == 0 || a.Len() == 0 {
			continue
		}
		tried++
		if foot.Conflict(a, c) || foot.Conflict(c, a) {
			t.Fatalf("%v conflicts with %v, and %v, that has all of it, does not", a.Claims(), c.Claims(), b.Claims())
		}
	}
	if tried < 1000 {
		t.Errorf("only %d were tried", tried)
	}
}

// P9.1: what is told does not hang on the order in which rows lie in memory.
func TestAlwaysTheSame(t *testing.T) {
	var l claims
	for i := range api.MaxClaim {
		l = append(l, api.Claim{Write: i%3 == 0, Col: -1, Key: string([]byte{byte(i * 37), byte(i)})})
	}
	want := made(t, l...).Claims()
	if !slices.IsSortedFunc(want, func(a, b api.Claim) int { return strings.Compare(a.Key, b.Key) }) {
		t.Fatalf("rows are not in order: %v", want)
	}
	for range 50 {
		wantClaims(t, "once more", made(t, l...), want)
	}
}

// P9.1: very many claims are told at once.
func TestVeryManyClaims(t *testing.T) {
	var l claims
	for i := range 200000 {
		l = append(l, reads(1, i, i+1), writes(2, -i, 0), readRow("a"))
	}
	wantClaims(t, "very many", made(t, l...), claims{readRow("a"), reads(1, 0, 200000), writes(2, -199999, 0)})
	if f, e := foot.New(append(l, writeRow(""))...); e != api.ErrKey || f.Len() != 0 {
		t.Errorf("of very many claims, the last one wrong, New answers %v, and %d claims", e, f.Len())
	}
}
