package wide

import (
	"strings"

	"joinlearn/api"
)

// Rat is a fraction in lowest terms. The zero value is 0.
type Rat struct{ num, den Int } // den is at least 1, but for the zero value

// Whole returns the Rat of n.
func Whole(n Int) Rat {
	return Rat{n, Make(1)}
}

// MakeRat returns num / den. Of a division by 0 it is 0.
func MakeRat(num, den Int) Rat {
	divisor := num.Gcd(den)
	switch den.Sign() {
	case 0:
		return Rat{}
	case -1:
		divisor = divisor.Negated()
	}
	return Rat{part(num, divisor), part(den, divisor)}
}

// part returns a / b, which must have no rest.
func part(a, b Int) Int {
	quotient, _ := a.Divide(b)
	return quotient
}

// ReadRat returns the fraction of a, which must be canonical (chapter 2).
func ReadRat(a api.Rat) Rat {
	num, den, divided := strings.Cut(string(a), "/")
	if !divided {
		return Whole(Read(num))
	}
	return Rat{Read(num), Read(den)}
}

// Num returns the numerator.
func (a Rat) Num() Int {
	return a.num
}

// Den returns the denominator.
func (a Rat) Den() Int {
	if a.den.Sign() == 0 {
		return Make(1)
	}
	return a.den
}

// Sign returns -1, 0 or 1.
func (a Rat) Sign() int {
	return a.num.Sign()
}

// Compare returns -1, 0 or 1 if a is less than, equal to, or greater than b.
func (a Rat) Compare(b Rat) int {
	return a.num.Times(b.Den()).Compare(b.num.Times(a.Den()))
}

// Negated returns -a.
func (a Rat) Negated() Rat {
	return Rat{a.num.Negated(), a.den}
}

// Plus looks for divisors of the denominators alone (Knuth, 4.5.1): in a long sum of short fractions they stay short.
func (a Rat) Plus(b Rat) Rat {
	denA, denB := a.Den(), b.Den()
	common := denA.Gcd(denB)
	rest := part(denA, common)
	num := a.num.Times(part(denB, common)).Plus(b.num.Times(rest))
	divisor := num.Gcd(common) // no prime factor of the denominator that is not in common divides num
	return Rat{part(num, divisor), rest.Times(part(denB, divisor))}
}

// Minus returns a - b.
func (a Rat) Minus(b Rat) Rat {
	return a.Plus(b.Negated())
}

// Times returns a * b.
func (a Rat) Times(b Rat) Rat {
	denA, denB := a.Den(), b.Den()
	first, second := a.num.Gcd(denB), b.num.Gcd(denA)
	return Rat{
		part(a.num, first).Times(part(b.num, second)),
		part(denA, second).Times(part(denB, first)),
	}
}

// Over returns a / b. Of a division by 0 it is 0.
func (a Rat) Over(b Rat) Rat {
	switch b.Sign() {
	case 0:
		return Rat{}
	case -1:
		return a.Times(Rat{b.Den().Negated(), b.num.Negated()})
	}
	return a.Times(Rat{b.Den(), b.num})
}

// Write returns the text of a, and ErrLimit if numerator or denominator have more than MaxDigits digits.
func (a Rat) Write() (api.Rat, api.Errno) {
	num, den := a.num.Digits(), a.Den().Digits()
	if max(len(num), len(den)) > api.MaxDigits {
		return "", api.ErrLimit
	}
	if a.Sign() < 0 {
		num = "-" + num
	}
	if den == "1" {
		return api.Rat(num), api.OK
	}
	return api.Rat(num + "/" + den), api.OK
}
