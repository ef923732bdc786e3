package wide

import "math/bits"

// gcd is Lehmer's: most steps of Euclid are done with the highest 64 bits alone, and many of them are then applied to the whole numbers at once.
func (x natural) gcd(y natural) natural {
	if x.compare(y) < 0 {
		x, y = y, x
	}
	for len(y) > 2 {
		s := steps(x.leading(y))
		if s.b0 == 0 { // the highest bits do not even determine one quotient
			_, rest := x.divide(y)
			x, y = y, rest
		} else {
			x, y = s.apply(x, y)
		}
	}
	if len(y) == 0 {
		return x
	}
	_, rest := x.divide(y)
	return natural64(gcd64(y.word(), rest.word()))
}

// gcd64 is the greatest common divisor of two words.
func gcd64(a, b uint64) uint64 {
	for b != 0 {
		a, b = b, a%b
	}
	return a
}

// leading returns the highest 64 bits of x, and the bits of y at the same places. x has at least three limbs and is not less than y.
func (x natural) leading(y natural) (a, b uint64) {
	n := len(x)
	shift := bits.LeadingZeros32(x[n-1])
	at := func(z natural) uint64 {
		return (z.limb(n-1)<<limbBits|z.limb(n-2))<<shift | z.limb(n-3)<<shift>>limbBits
	}
	return at(x), at(y)
}

// euclid is the effect of some steps of Euclid: they turn x and y into a0 x - b0 y and b1 y - a1 x if the number of steps is even, and otherwise into the negatives of these.
type euclid struct {
	a0, b0, a1, b1 uint64 // less than 2^32
	even           bool
}

// steps does steps of Euclid with a and b as long as all numbers with these highest bits have the same quotients (Collins's condition). The last step is kept back, since its quotient is not certain yet.
func steps(a, b uint64) euclid {
	s := euclid{a1: 1}
	nextA, nextB := uint64(0), uint64(1)
	for b >= nextB && a-b >= s.b1+nextB {
		q := a / b
		a, b = b, a%b
		s.a0, s.a1, nextA = s.a1, nextA, s.a1+q*nextA
		s.b0, s.b1, nextB = s.b1, nextB, s.b1+q*nextB
		s.even = !s.even
	}
	return s
}

// apply applies the steps to the numbers that they were found for.
func (s euclid) apply(x, y natural) (natural, natural) {
	if s.even {
		return x.combine(s.a0, y, s.b0), y.combine(s.b1, x, s.a1)
	}
	return y.combine(s.b0, x, s.a0), x.combine(s.a1, y, s.b1)
}

// combine returns a x - b y, which must be from 0 to the greater one of x and y. a and b must be less than 2^32.
func (x natural) combine(a uint64, y natural, b uint64) natural {
	result := make(natural, max(len(x), len(y)))
	plus, minus, borrow := uint64(0), uint64(0), uint64(0)
	for i := range result {
		plus += x.limb(i) * a
		minus += y.limb(i) * b
		d := plus&(1<<limbBits-1) - minus&(1<<limbBits-1) - borrow
		result[i] = uint32(d)
		borrow = d >> (2*limbBits - 1)
		plus >>= limbBits
		minus >>= limbBits
	}
	return result.trim()
}
