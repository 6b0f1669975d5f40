package wide

import (
	"math"
	"math/big"
	"strconv"
	"strings"
	"testing"

	"hectare/api"
)

var (
	top = Int{Hi: math.MaxInt64, Lo: math.MaxUint64}
	low = Int{Hi: math.MinInt64}
	one = Int{Lo: 1}
)

// Texts of the two ends of the range, and of what is just beyond them.
const (
	topText     = "170141183460469231731687303715884105727"
	lowText     = "-170141183460469231731687303715884105728"
	aboveText   = "170141183460469231731687303715884105728"
	beneathText = "-170141183460469231731687303715884105729"
)

// value is what the words of an Int say: Hi times 2^64, and Lo.
func value(x Int) *big.Int {
	v := new(big.Int).Lsh(big.NewInt(x.Hi), 64)
	return v.Add(v, new(big.Int).SetUint64(x.Lo))
}

// fits tells whether a number is within the range of an Int.
func fits(v *big.Int) bool {
	return v.Cmp(value(low)) >= 0 && v.Cmp(value(top)) <= 0
}

// ints is numbers of one word: edges, their neighbours, and others.
func ints() []int {
	var l []int
	for _, n := range []int{0, math.MinInt, math.MaxInt, 1 << 24, 1 << 31, 1 << 32, 1 << 62, -1 << 24, -1 << 31, -1 << 32, -1 << 62, 1000000007, -998244353} {
		for d := -2; d <= 2; d++ {
			l = append(l, n+d)
		}
	}
	return append(l, mixed(40)...)
}

// mixed is numbers from a short rule: of all lengths, the same each time.
func mixed(n int) []int {
	l := make([]int, 0, n)
	x := uint64(88172645463325252)
	for i := range n {
		x ^= x << 13
		x ^= x >> 7
		x ^= x << 17
		l = append(l, int(int64(x)>>(i%64)))
	}
	return l
}

// wides is numbers of two words: all pairs of edge words, and others.
func wides() []Int {
	highs := []int64{0, 1, 2, -1, -2, 5, 1 << 62, -1 << 62, math.MinInt64, math.MinInt64 + 1, math.MaxInt64, math.MaxInt64 - 1}
	lows := []uint64{0, 1, 2, 1<<63 - 1, 1 << 63, 1<<63 + 1, math.MaxUint64 - 1, math.MaxUint64}
	var l []Int
	for _, h := range highs {
		for _, w := range lows {
			l = append(l, Int{Hi: h, Lo: w})
		}
	}
	m := mixed(80)
	for i := 0; i < len(m); i += 2 {
		l = append(l, Int{Hi: int64(m[i]), Lo: uint64(m[i+1])})
	}
	return l
}

// tens is the texts around each power of ten within the range, both signs.
func tens() []string {
	var l []string
	for n := range 39 {
		power := new(big.Int).Exp(big.NewInt(10), big.NewInt(int64(n)), nil)
		for d := int64(-1); d <= 1; d++ {
			v := new(big.Int).Add(power, big.NewInt(d))
			l = append(l, v.String(), v.Neg(v).String())
		}
	}
	return l
}

// holds checks a number, and whether it was told to be there, against the one
// that it should be.
func holds(t *testing.T, what string, got Int, ok bool, want *big.Int) {
	t.Helper()
	if ok != fits(want) {
		t.Errorf("%s: %v, want %v of %v", what, ok, !ok, want)
	} else if ok && value(got).Cmp(want) != 0 {
		t.Errorf("%s: %v, want %v", what, got, want)
	} else if !ok && got != (Int{}) {
		t.Errorf("%s: %v beside a false", what, got)
	}
}

func TestFrom(t *testing.T) {
	words := map[int]Int{
		0:           {},
		7:           {Lo: 7},
		-1:          {Hi: -1, Lo: math.MaxUint64},
		math.MinInt: {Hi: -1, Lo: 1 << 63},
		math.MaxInt: {Lo: 1<<63 - 1},
	}
	for n, want := range words {
		if got := From(n); got != want {
			t.Errorf("P1.1 From(%d): %v, want %v", n, got, want)
		}
	}
	for _, n := range ints() {
		holds(t, "P1.1 From "+strconv.Itoa(n), From(n), true, big.NewInt(int64(n)))
	}
}

func TestMul(t *testing.T) {
	if got := Mul(1<<62, 4); got != (Int{Hi: 1}) {
		t.Errorf("P1.1 Mul(2^62, 4): %v", got)
	}
	if got := Mul(math.MinInt, math.MinInt); got != (Int{Hi: 1 << 62}) {
		t.Errorf("P1.1 Mul of the least int with itself: %v", got)
	}
	for _, a := range ints() {
		for _, b := range ints() {
			want := new(big.Int).Mul(big.NewInt(int64(a)), big.NewInt(int64(b)))
			holds(t, "P1.1 P1.3 "+strconv.Itoa(a)+" times "+strconv.Itoa(b), Mul(a, b), true, want)
		}
	}
}

func TestAddSub(t *testing.T) {
	for _, x := range wides() {
		for _, y := range wides() {
			sum, ok := x.Add(y)
			holds(t, "P1.1 P1.3 "+x.Text()+" and "+y.Text(), sum, ok, new(big.Int).Add(value(x), value(y)))
			rest, ok := x.Sub(y)
			holds(t, "P1.1 P1.3 "+x.Text()+" less "+y.Text(), rest, ok, new(big.Int).Sub(value(x), value(y)))
		}
	}
}

func TestEdges(t *testing.T) {
	rows := []struct {
		what string
		call func() (Int, bool)
		want Int
		ok   bool
	}{
		{"top and 0", func() (Int, bool) { return top.Add(Int{}) }, top, true},
		{"top and 1", func() (Int, bool) { return top.Add(one) }, Int{}, false},
		{"top and -1", func() (Int, bool) { return top.Add(From(-1)) }, Int{Hi: math.MaxInt64, Lo: math.MaxUint64 - 1}, true},
		{"top and top", func() (Int, bool) { return top.Add(top) }, Int{}, false},
		{"top and low", func() (Int, bool) { return top.Add(low) }, From(-1), true},
		{"low and -1", func() (Int, bool) { return low.Add(From(-1)) }, Int{}, false},
		{"low and low", func() (Int, bool) { return low.Add(low) }, Int{}, false},
		{"a carry", func() (Int, bool) { return Int{Lo: math.MaxUint64}.Add(one) }, Int{Hi: 1}, true},
		{"a carry up to 0", func() (Int, bool) { return From(-1).Add(one) }, Int{}, true},
		{"low less 0", func() (Int, bool) { return low.Sub(Int{}) }, low, true},
		{"low less 1", func() (Int, bool) { return low.Sub(one) }, Int{}, false},
		{"low less low", func() (Int, bool) { return low.Sub(low) }, Int{}, true},
		{"top less -1", func() (Int, bool) { return top.Sub(From(-1)) }, Int{}, false},
		{"top less top", func() (Int, bool) { return top.Sub(top) }, Int{}, true},
		{"0 less low", func() (Int, bool) { return Int{}.Sub(low) }, Int{}, false},
		{"-1 less low", func() (Int, bool) { return From(-1).Sub(low) }, top, true},
		{"a borrow", func() (Int, bool) { return Int{Hi: 1}.Sub(one) }, Int{Lo: math.MaxUint64}, true},
		{"the opposite of 0", Int{}.Neg, Int{}, true},
		{"the opposite of low", low.Neg, Int{}, false},
		{"the opposite of top", top.Neg, Int{Hi: math.MinInt64, Lo: 1}, true},
		{"the opposite of -2^64", Int{Hi: -1}.Neg, Int{Hi: 1}, true},
	}
	for _, r := range rows {
		if got, ok := r.call(); got != r.want || ok != r.ok {
			t.Errorf("P1.1 %s: %v %v, want %v %v", r.what, got, ok, r.want, r.ok)
		}
	}
}

func TestNegSign(t *testing.T) {
	for _, x := range append(wides(), top, low, one, Int{}) {
		opposite, ok := x.Neg()
		holds(t, "P1.1 opposite of "+x.Text(), opposite, ok, new(big.Int).Neg(value(x)))
		if got, want := x.Sign(), value(x).Sign(); got != want {
			t.Errorf("P1.1 sign of %v: %d, want %d", x, got, want)
		}
	}
}

func TestCmp(t *testing.T) {
	l := append(wides(), top, low, one, Int{})
	for _, x := range l {
		for _, y := range l {
			if got, want := x.Cmp(y), value(x).Cmp(value(y)); got != want {
				t.Errorf("P1.1 %v to %v: %d, want %d", x, y, got, want)
			}
		}
	}
}

func TestText(t *testing.T) {
	words := map[string]Int{
		"0":                     {},
		"1":                     one,
		"-1":                    From(-1),
		"10":                    {Lo: 10},
		"-9223372036854775808":  From(math.MinInt),
		"9223372036854775807":   From(math.MaxInt),
		"18446744073709551615":  {Lo: math.MaxUint64},
		"18446744073709551616":  {Hi: 1},
		"-18446744073709551616": {Hi: -1},
		topText:                 top,
		lowText:                 low,
	}
	for want, x := range words {
		if got := x.Text(); got != want {
			t.Errorf("P1.2 text of %v: %q, want %q", x, got, want)
		}
	}
	for _, x := range wides() {
		if got, want := x.Text(), value(x).String(); got != want {
			t.Errorf("P1.2 text of %v: %q, want %q", x, got, want)
		}
	}
}

func TestParse(t *testing.T) {
	for _, s := range append(tens(), "0", "9", "-9", topText, lowText) {
		want, good := new(big.Int).SetString(s, 10)
		got, e := Parse(s)
		if !good || e != api.OK || value(got).Cmp(want) != 0 {
			t.Errorf("P1.2 Parse(%q): %v %d", s, got, e)
		}
	}
}

func TestParseMalformed(t *testing.T) {
	l := []string{
		"", "-", "--", "--1", "-0", "-00", "00", "01", "-01", "+", "+0", "+1", " ", " 1", "1 ", "1-", "1-1",
		"1_000", "1,000", "1.0", "1e3", "0x1", "a", "1a", "a1", "/", ":", "1/", "1:", "\x00", "1\x00", "1\n",
		"\u0661", "\u22121", "\uff11", "\xff", "1\xb1",
		aboveText, beneathText, "-" + lowText, "0" + topText, topText + "0", lowText + "0",
		"-0" + aboveText,
		"340282366920938463463374607431768211455", "340282366920938463463374607431768211456",
		"340282366920938463463374607431768211457", "-340282366920938463463374607431768211456",
		"-340282366920938463463374607431768211457",
		strings.Repeat("9", 38) + "x", strings.Repeat("9", 39), strings.Repeat("9", 40), "-" + strings.Repeat("9", 39),
		"1" + strings.Repeat("0", 39), "1" + strings.Repeat("0", 100000), strings.Repeat("0", 100000),
		strings.Repeat("-", 100000),
	}
	for _, s := range l {
		if got, e := Parse(s); e != api.Malformed || got != (Int{}) {
			t.Errorf("P1.2 Parse(%.60q): %v %d, want Malformed", s, got, e)
		}
	}
}

// TestParseNearby tries each text that is one byte away from a number's: it is
// read, if it is the text of what is read, and Malformed otherwise.
func TestParseNearby(t *testing.T) {
	for _, s := range []string{"0", "7", "-7", "10", "-12", topText, lowText} {
		for i := range len(s) {
			for c := range 256 {
				near := s[:i] + string([]byte{byte(c)}) + s[i+1:]
				want, good := new(big.Int).SetString(near, 10)
				good = good && want.String() == near && fits(want)
				got, e := Parse(near)
				if good && (e != api.OK || value(got).Cmp(want) != 0) {
					t.Errorf("P1.2 Parse(%q): %v %d", near, got, e)
				} else if !good && (e != api.Malformed || got != (Int{})) {
					t.Errorf("P1.2 Parse(%q): %v %d, want Malformed", near, got, e)
				}
			}
		}
	}
}

func TestThereAndBack(t *testing.T) {
	for _, x := range append(wides(), top, low, one, Int{}) {
		if got, e := Parse(x.Text()); got != x || e != api.OK {
			t.Errorf("P1.3 Parse of the text of %v: %v %d", x, got, e)
		}
	}
}
