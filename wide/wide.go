// Package wide is numbers of 128 bits: see DOC.md, chapter 1.
package wide

import (
	"cmp"
	"math/bits"
	"strings"

	"hectare/api"
)

// Int is Hi times 2^64, and Lo.
type Int struct {
	Hi int64
	Lo uint64
}

// From is a number.
func From(n int) Int {
	return Int{Hi: int64(n) >> 63, Lo: uint64(n)}
}

// Mul is a product.
func Mul(a, b int) Int {
	hi, lo := bits.Mul64(uint64(a), uint64(b))
	// A factor below 0 stands in its word as 2^64 more than it is, so that
	// the high word has the other factor once too often.
	if a < 0 {
		hi -= uint64(b)
	}
	if b < 0 {
		hi -= uint64(a)
	}
	return Int{Hi: int64(hi), Lo: lo}
}

// Add adds.
func (x Int) Add(y Int) (Int, bool) {
	lo, carry := bits.Add64(x.Lo, y.Lo, 0)
	hi := x.Hi + y.Hi + int64(carry)
	// Only two of one sign can leave the range, and then the sign turns.
	if (x.Hi < 0) == (y.Hi < 0) && (hi < 0) != (x.Hi < 0) {
		return Int{}, false
	}
	return Int{Hi: hi, Lo: lo}, true
}

// Sub takes away.
func (x Int) Sub(y Int) (Int, bool) {
	lo, borrow := bits.Sub64(x.Lo, y.Lo, 0)
	hi := x.Hi - y.Hi - int64(borrow)
	// Only two of unlike signs can leave the range, and then the sign turns.
	if (x.Hi < 0) != (y.Hi < 0) && (hi < 0) != (x.Hi < 0) {
		return Int{}, false
	}
	return Int{Hi: hi, Lo: lo}, true
}

// Neg is the opposite.
func (x Int) Neg() (Int, bool) {
	return Int{}.Sub(x)
}

// Sign is its sign.
func (x Int) Sign() int {
	return x.Cmp(Int{})
}

// Cmp compares two.
func (x Int) Cmp(y Int) int {
	if x.Hi != y.Hi {
		return cmp.Compare(x.Hi, y.Hi)
	}
	return cmp.Compare(x.Lo, y.Lo)
}

// longest is the length of the longest text, that of -2^127.
const longest = 40

// Text writes it.
func (x Int) Text() string {
	if x == (Int{}) {
		return "0"
	}
	hi, lo := uint64(x.Hi), x.Lo
	if x.Hi < 0 {
		hi, lo = opposite(hi, lo)
	}
	var row [longest]byte
	at := len(row)
	for hi != 0 || lo != 0 {
		var last byte
		hi, lo, last = shorten(hi, lo)
		at--
		row[at] = '0' + last
	}
	if x.Hi < 0 {
		at--
		row[at] = '-'
	}
	return string(row[at:])
}

// Parse reads one.
func Parse(s string) (Int, api.Errno) {
	digits, below := strings.CutPrefix(s, "-")
	hi, lo, ok := size(digits)
	if !ok {
		return Int{}, api.Malformed
	}
	if below {
		hi, lo = opposite(hi, lo)
	}
	x := Int{Hi: int64(hi), Lo: lo}
	// The sign turns where the number is out of range; and -0 has none.
	if (x.Hi < 0) != below {
		return Int{}, api.Malformed
	}
	return x, api.OK
}

// size reads digits as a number of two words, without a sign; false of other
// texts, of noughts ahead, and of what is too great with either sign.
func size(digits string) (hi, lo uint64, ok bool) {
	if digits == "" || digits[0] == '0' && len(digits) > 1 {
		return 0, 0, false
	}
	for i := range len(digits) {
		d := digits[i]
		// 2^63 is the high word of 2^127: from more than a tenth of it, one
		// digit more leads beyond that, and later ones would run over.
		if d < '0' || d > '9' || hi > (1<<63)/10 {
			return 0, 0, false
		}
		hi, lo = lengthen(hi, lo, d-'0')
	}
	return hi, lo, true
}

// lengthen puts a digit behind a number of two words.
func lengthen(hi, lo uint64, digit byte) (uint64, uint64) {
	over, low := bits.Mul64(lo, 10)
	low, carry := bits.Add64(low, uint64(digit), 0)
	return hi*10 + over + carry, low
}

// shorten takes the last digit from a number of two words.
func shorten(hi, lo uint64) (uint64, uint64, byte) {
	low, last := bits.Div64(hi%10, lo, 10)
	return hi / 10, low, byte(last)
}

// opposite takes a number of two words from 0.
func opposite(hi, lo uint64) (uint64, uint64) {
	low, borrow := bits.Sub64(0, lo, 0)
	high, _ := bits.Sub64(0, hi, borrow)
	return high, low
}
