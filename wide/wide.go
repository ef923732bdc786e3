// Package wide computes with integers and fractions of any size.
//
// Numbers of packages integer and rational have at most MaxDigits digits, but what is computed on the way to them may have more; this package has no such limit.
package wide

import (
	"cmp"
	"math/bits"
)

// Int is an integer. The zero value is 0. Nothing writes into the limbs of an Int that exists, so that several may share them.
//
// Nearly all numbers that a program meets are short. They are kept in a word, since limbs take many times as long.
type Int struct {
	word int     // a short number itself, of any other number 1 or -1 as its sign
	size natural // nothing for a short number, so that each number has one form
}

// maxShort is the greatest short number. The sum of two of them is still an int.
const maxShort = 1<<62 - 1

// Make returns the Int of n.
func Make(n int) Int {
	if -maxShort <= n && n <= maxShort {
		return Int{word: n}
	}
	return signed(n < 0, natural64(magnitude(n)))
}

// signed gives a size its sign.
func signed(negative bool, size natural) Int {
	a := Int{1, size}
	if n := size.word(); len(size) <= 2 && n <= maxShort {
		a = Int{word: int(n)}
	}
	if negative {
		a.word = -a.word
	}
	return a
}

// magnitude returns |n|.
func magnitude(n int) uint64 {
	if n < 0 {
		return -uint64(n)
	}
	return uint64(n)
}

func (a Int) short() bool {
	return len(a.size) == 0
}

// limbs returns |a|.
func (a Int) limbs() natural {
	if a.short() {
		return natural64(magnitude(a.word))
	}
	return a.size
}

// Sign returns -1, 0 or 1.
func (a Int) Sign() int {
	return cmp.Compare(a.word, 0)
}

// Compare returns -1, 0 or 1 if a is less than, equal to, or greater than b.
func (a Int) Compare(b Int) int {
	if a.short() && b.short() || a.Sign() != b.Sign() {
		return cmp.Compare(a.word, b.word)
	}
	return a.Sign() * a.limbs().compare(b.limbs())
}

// Negated returns -a.
func (a Int) Negated() Int {
	return Int{-a.word, a.size}
}

// Plus returns a + b.
func (a Int) Plus(b Int) Int {
	if a.short() && b.short() {
		return Make(a.word + b.word)
	}
	x, y := a.limbs(), b.limbs()
	if a.Sign() == b.Sign() {
		return signed(a.word < 0, x.plus(y))
	}
	if x.compare(y) < 0 {
		return signed(b.word < 0, y.minus(x))
	}
	return signed(a.word < 0, x.minus(y))
}

// Minus returns a - b.
func (a Int) Minus(b Int) Int {
	return a.Plus(b.Negated())
}

// Times returns a * b.
func (a Int) Times(b Int) Int {
	if a.short() && b.short() {
		high, low := bits.Mul64(magnitude(a.word), magnitude(b.word))
		if high == 0 && low <= maxShort {
			return Int{word: a.word * b.word}
		}
	}
	return signed(a.Sign() != b.Sign(), a.limbs().times(b.limbs()))
}

// Divide returns the quotient and the rest, which is from 0 to |b| - 1. Of a division by 0 both are 0.
func (a Int) Divide(b Int) (quotient, rest Int) {
	if b.Sign() == 0 {
		return Int{}, Int{}
	}
	if a.short() && b.short() {
		quotient, rest = Int{word: a.word / b.word}, Int{word: a.word % b.word}
	} else {
		q, r := a.limbs().divide(b.limbs())
		quotient, rest = signed(a.Sign() != b.Sign(), q), signed(a.word < 0, r)
	}
	if rest.Sign() >= 0 {
		return quotient, rest
	}
	// The quotient is rounded towards 0, but the rest must not be negative.
	if b.Sign() > 0 {
		return quotient.Minus(Make(1)), rest.Plus(b)
	}
	return quotient.Plus(Make(1)), rest.Minus(b)
}

// Gcd returns the greatest common divisor, and 0 for two zeros.
func (a Int) Gcd(b Int) Int {
	if a.short() && b.short() {
		return Int{word: int(gcd64(magnitude(a.word), magnitude(b.word)))}
	}
	return signed(false, a.limbs().gcd(b.limbs()))
}
