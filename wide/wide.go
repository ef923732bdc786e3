// Package wide computes with integers of any size.
//
// Numbers of package integer have at most MaxDigits digits, but what is computed on the way to them may have more; this package has no such limit.
package wide

// Int is an integer. The zero value is 0. Nothing writes into the digits of an Int that exists, so that several may share them.
type Int struct {
	negative bool // never of 0, so that each number has one form
	size     natural
}

// signed gives a size its sign.
func signed(negative bool, size natural) Int {
	return Int{negative && len(size) > 0, size}
}

// Sign returns -1, 0 or 1.
func (a Int) Sign() int {
	switch {
	case len(a.size) == 0:
		return 0
	case a.negative:
		return -1
	}
	return 1
}

// Plus returns a + b.
func (a Int) Plus(b Int) Int {
	if a.negative == b.negative {
		return signed(a.negative, a.size.plus(b.size))
	}
	if a.size.compare(b.size) < 0 {
		return signed(b.negative, b.size.minus(a.size))
	}
	return signed(a.negative, a.size.minus(b.size))
}

// Minus returns a - b.
func (a Int) Minus(b Int) Int {
	return a.Plus(signed(!b.negative, b.size))
}

// Times returns a * b.
func (a Int) Times(b Int) Int {
	return signed(a.negative != b.negative, a.size.times(b.size))
}

// Divide returns the quotient and the rest, which is from 0 to |b| - 1. Of a division by 0 both are 0.
func (a Int) Divide(b Int) (quotient, rest Int) {
	if b.Sign() == 0 {
		return Int{}, Int{}
	}
	q, r := a.size.divide(b.size)
	if a.negative && len(r) > 0 { // the rest must not be negative, so the quotient goes one step further from 0
		q, r = q.plus(natural{1}), b.size.minus(r)
	}
	return signed(a.negative != b.negative, q), signed(false, r)
}

// Gcd returns the greatest common divisor, and 0 for two zeros.
func (a Int) Gcd(b Int) Int {
	return signed(false, a.size.gcd(b.size))
}
