// Package integer computes with integers in decimal (chapter 1).
//
// Its numbers have at most MaxDigits digits; what is computed on the way to a result has as many as it needs (package wide).
package integer

import (
	"cmp"
	"strconv"
	"strings"

	"joinlearn/api"
	"joinlearn/wide"
)

// maxSmall is the greatest number that Small returns.
const maxSmall = 1 << 62

// Valid reports whether a is canonical.
func Valid(a api.Int) bool {
	if a == "0" {
		return true
	}
	digits := strings.TrimPrefix(string(a), "-")
	if len(digits) < 1 || len(digits) > api.MaxDigits || digits[0] == '0' {
		return false
	}
	for i := range len(digits) {
		if digits[i] < '0' || digits[i] > '9' {
			return false
		}
	}
	return true
}

// Make returns the Int of n.
func Make(n int) api.Int {
	return api.Int(strconv.Itoa(n))
}

// Small returns the number of a, and true, if it is from -2^62 to 2^62.
func Small(a api.Int) (int, bool) {
	if !Valid(a) {
		return 0, false
	}
	n, err := strconv.Atoi(string(a))
	if err != nil || n < -maxSmall || n > maxSmall {
		return 0, false
	}
	return n, true
}

// Sign returns -1, 0 or 1; 0 also if a is not valid.
func Sign(a api.Int) int {
	switch {
	case !Valid(a) || a == "0":
		return 0
	case a[0] == '-':
		return -1
	}
	return 1
}

// Compare returns -1, 0 or 1 if a is less than, equal to, or greater than b; 0 also if one of them is not valid.
func Compare(a, b api.Int) int {
	if !Valid(a) || !Valid(b) {
		return 0
	}
	sign := Sign(a)
	if c := cmp.Compare(sign, Sign(b)); c != 0 {
		return c
	}
	// Both have a - or none, and neither has zeros in front: the longer text is further from 0.
	return sign * cmp.Or(cmp.Compare(len(a), len(b)), cmp.Compare(a, b))
}

// Add returns a + b.
func Add(a, b api.Int) (api.Int, api.Errno) {
	return combine(wide.Int.Plus, a, b)
}

// Sub returns a - b.
func Sub(a, b api.Int) (api.Int, api.Errno) {
	return combine(wide.Int.Minus, a, b)
}

// Mul returns a * b.
func Mul(a, b api.Int) (api.Int, api.Errno) {
	return combine(wide.Int.Times, a, b)
}

// Div returns the quotient, rounded so that the rest is from 0 to |b| - 1, and the rest.
func Div(a, b api.Int) (quotient, rest api.Int, e api.Errno) {
	if !Valid(a) || !Valid(b) {
		return "", "", api.ErrNumber
	}
	if b == "0" {
		return "", "", api.ErrZero
	}
	q, r := read(a).Divide(read(b))
	// No limit can be met: the quotient is not further from 0 than a, and the rest is less than |b|.
	quotient, _ = write(q)
	rest, _ = write(r)
	return quotient, rest, api.OK
}

// Gcd returns the greatest common divisor, which is not negative.
func Gcd(a, b api.Int) (api.Int, api.Errno) {
	return combine(wide.Int.Gcd, a, b)
}

// combine applies an operation to two numbers.
func combine(apply func(a, b wide.Int) wide.Int, a, b api.Int) (api.Int, api.Errno) {
	if !Valid(a) || !Valid(b) {
		return "", api.ErrNumber
	}
	return write(apply(read(a), read(b)))
}

// read returns the number of a valid Int.
func read(a api.Int) wide.Int {
	return wide.Read(string(a))
}

// write returns the Int of a number, if it has not too many digits.
func write(n wide.Int) (api.Int, api.Errno) {
	digits := n.Digits()
	if len(digits) > api.MaxDigits {
		return "", api.ErrLimit
	}
	if n.Sign() >= 0 {
		return api.Int(digits), api.OK
	}
	text := make([]byte, 1+len(digits))
	text[0] = '-'
	copy(text[1:], digits)
	return api.Int(text), api.OK
}
