// Package ratio is layer 1: rational numbers.
package ratio

import (
	"cmp"
	"strconv"
	"strings"

	"partita/api"
)

// deed is what is done with two right ratios, as a value that is handed on:
// how the terms of the answer come of theirs. The terms need not be the lowest
// ones. Those of right ratios are at most MaxTerm, so that neither a product
// of two of them nor a sum of two such products leaves 64 bits.
type deed struct {
	num func(a, b api.Ratio) int
	den func(a, b api.Ratio) int
}

// sum adds b so many times: 1 makes a sum, -1 a difference.
func sum(times int) deed {
	return deed{
		num: func(a, b api.Ratio) int { return a.Num*b.Den + times*b.Num*a.Den },
		den: func(a, b api.Ratio) int { return a.Den * b.Den },
	}
}

func product() deed {
	return deed{
		num: func(a, b api.Ratio) int { return a.Num * b.Num },
		den: func(a, b api.Ratio) int { return a.Den * b.Den },
	}
}

// quotient has 0 below, just where b is 0: Of tells that as ErrZero.
func quotient() deed {
	return deed{
		num: func(a, b api.Ratio) int { return a.Num * b.Den },
		den: func(a, b api.Ratio) int { return a.Den * b.Num },
	}
}

// apply does d with a and b, if both are right.
func apply(d deed, a, b api.Ratio) (api.Ratio, api.Errno) {
	if !Right(a) || !Right(b) {
		return api.Ratio{}, api.ErrRatio
	}
	return Of(d.num(a, b), d.den(a, b))
}

// magnitude is unsigned, because the least int has no positive counterpart.
func magnitude(n int) uint64 {
	if n < 0 {
		return -uint64(n)
	}
	return uint64(n)
}

func divisor(a, b uint64) uint64 {
	for b != 0 {
		a, b = b, a%b
	}
	return a
}

// Of answers the right ratio that is num by den; ErrZero, if den is 0; ErrRatio, if there is none.
func Of(num int, den int) (api.Ratio, api.Errno) {
	if den == 0 {
		return api.Ratio{}, api.ErrZero
	}
	top, below := magnitude(num), magnitude(den)
	common := divisor(top, below)
	top, below = top/common, below/common
	if top > api.MaxTerm || below > api.MaxTerm {
		return api.Ratio{}, api.ErrRatio
	}
	a := api.Ratio{Num: int(top), Den: int(below)}
	if (num < 0) != (den < 0) {
		a.Num = -a.Num
	}
	return a, api.OK
}

// Right tells whether a is in lowest terms, and both are within the limits.
func Right(a api.Ratio) bool {
	if a.Den < 1 || a.Den > api.MaxTerm || a.Num < -api.MaxTerm || a.Num > api.MaxTerm {
		return false
	}
	return divisor(magnitude(a.Num), magnitude(a.Den)) == 1
}

// Add answers a and b together; ErrRatio, if one of them, or the sum, is not right.
func Add(a api.Ratio, b api.Ratio) (api.Ratio, api.Errno) { return apply(sum(1), a, b) }

// Sub answers a less b; ErrRatio, if one of them, or the difference, is not right.
func Sub(a api.Ratio, b api.Ratio) (api.Ratio, api.Errno) { return apply(sum(-1), a, b) }

// Mul answers a times b; ErrRatio, if one of them, or the product, is not right.
func Mul(a api.Ratio, b api.Ratio) (api.Ratio, api.Errno) { return apply(product(), a, b) }

// Div answers a by b; ErrRatio, if one of them is not right; ErrZero, if b is 0; ErrRatio, if the quotient is not right.
func Div(a api.Ratio, b api.Ratio) (api.Ratio, api.Errno) { return apply(quotient(), a, b) }

// Compare answers -1, 0, 1, as a is less than, equal to, greater than b; 0, if one of them is not right.
func Compare(a api.Ratio, b api.Ratio) int {
	if !Right(a) || !Right(b) {
		return 0
	}
	return cmp.Compare(sum(-1).num(a, b), 0)
}

// Floor answers the greatest whole number that is not above a; ErrRatio, if a is not right.
func Floor(a api.Ratio) (int, api.Errno) {
	if !Right(a) {
		return 0, api.ErrRatio
	}
	whole := a.Num / a.Den
	if a.Num%a.Den < 0 { // Go's division cuts towards 0
		whole--
	}
	return whole, api.OK
}

// Text answers a in digits, such as -3/4 or 5; ErrRatio, if a is not right.
func Text(a api.Ratio) (string, api.Errno) {
	if !Right(a) {
		return "", api.ErrRatio
	}
	if a.Den == 1 {
		return strconv.Itoa(a.Num), api.OK
	}
	return strconv.Itoa(a.Num) + "/" + strconv.Itoa(a.Den), api.OK
}

// Read answers the right ratio whose Text s is; ErrText, if there is none.
func Read(s string) (api.Ratio, api.Errno) {
	top, below, two := strings.Cut(s, "/")
	if !two {
		below = "1"
	}
	num, errNum := strconv.Atoi(top)
	den, errDen := strconv.Atoi(below)
	if errNum != nil || errDen != nil {
		return api.Ratio{}, api.ErrText
	}
	a := api.Ratio{Num: num, Den: den}
	// Atoi also takes a plus and noughts ahead, and 5/1 is no Text: only what is written back as it came is one.
	if text, e := Text(a); e != api.OK || text != s {
		return api.Ratio{}, api.ErrText
	}
	return a, api.OK
}
