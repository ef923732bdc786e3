package rational

import "joinlearn/wide"

// fraction is a number of any size in lowest terms; den is at least 1.
type fraction struct{ num, den wide.Int }

func whole(num wide.Int) fraction {
	return fraction{num, wide.Make(1)}
}

// reduced returns num / den. den must not be 0.
func reduced(num, den wide.Int) fraction {
	divisor := num.Gcd(den)
	if den.Sign() < 0 {
		divisor = divisor.Negated()
	}
	return fraction{part(num, divisor), part(den, divisor)}
}

// part returns a / b, which must have no rest.
func part(a, b wide.Int) wide.Int {
	quotient, _ := a.Divide(b)
	return quotient
}

// plus looks for divisors of the denominators alone (Knuth, 4.5.1): in a long sum of short fractions they stay short.
func (a fraction) plus(b fraction) fraction {
	common := a.den.Gcd(b.den)
	rest := part(a.den, common)
	num := a.num.Times(part(b.den, common)).Plus(b.num.Times(rest))
	divisor := num.Gcd(common) // no prime factor of the denominator that is not in common divides num
	return fraction{part(num, divisor), rest.Times(part(b.den, divisor))}
}

func (a fraction) minus(b fraction) fraction {
	return a.plus(fraction{b.num.Negated(), b.den})
}

func (a fraction) times(b fraction) fraction {
	first, second := a.num.Gcd(b.den), b.num.Gcd(a.den)
	return fraction{
		part(a.num, first).Times(part(b.num, second)),
		part(a.den, second).Times(part(b.den, first)),
	}
}

// over returns a / b. b must not be 0.
func (a fraction) over(b fraction) fraction {
	if b.num.Sign() < 0 {
		return a.times(fraction{b.den.Negated(), b.num.Negated()})
	}
	return a.times(fraction{b.den, b.num})
}

func (a fraction) compare(b fraction) int {
	return a.num.Times(b.den).Compare(b.num.Times(a.den))
}
