package wide

import (
	"cmp"
	"math/bits"
)

// natural is a number of at least 0: its limbs to the base 2^32, the lowest first, without zeros at the end.
type natural []uint32

// limbBits is the width of a limb. Products of two limbs, plus two more limbs, fit into 64 bits.
const limbBits = 32

// natural64 returns the natural of a word.
func natural64(n uint64) natural {
	return natural{uint32(n), uint32(n >> limbBits)}.trim()
}

// trim drops the zeros at the end.
func (x natural) trim() natural {
	for len(x) > 0 && x[len(x)-1] == 0 {
		x = x[:len(x)-1]
	}
	return x
}

// limb returns the limb at i; all limbs behind the end are 0.
func (x natural) limb(i int) uint64 {
	if i >= len(x) {
		return 0
	}
	return uint64(x[i])
}

// word returns the low 64 bits.
func (x natural) word() uint64 {
	return x.limb(1)<<limbBits | x.limb(0)
}

func (x natural) compare(y natural) int {
	if len(x) != len(y) {
		return cmp.Compare(len(x), len(y))
	}
	for i := len(x) - 1; i >= 0; i-- {
		if x[i] != y[i] {
			return cmp.Compare(x[i], y[i])
		}
	}
	return 0
}

func (x natural) plus(y natural) natural {
	sum := make(natural, max(len(x), len(y))+1)
	carry := uint64(0)
	for i := range sum {
		carry += x.limb(i) + y.limb(i)
		sum[i] = uint32(carry)
		carry >>= limbBits
	}
	return sum.trim()
}

// minus returns x - y. y must not be greater than x.
func (x natural) minus(y natural) natural {
	difference := make(natural, len(x))
	borrow := uint64(0)
	for i := range difference {
		d := x.limb(i) - y.limb(i) - borrow
		difference[i] = uint32(d)
		borrow = d >> (2*limbBits - 1)
	}
	return difference.trim()
}

func (x natural) times(y natural) natural {
	product := make(natural, len(x)+len(y))
	for i, limb := range x {
		carry := uint64(0)
		for j := range y {
			carry += uint64(limb)*uint64(y[j]) + uint64(product[i+j])
			product[i+j] = uint32(carry)
			carry >>= limbBits
		}
		product[i+len(y)] = uint32(carry)
	}
	return product.trim()
}

// shiftedLeft returns x * 2^n with one limb more than x has, even if it is 0. n must be less than limbBits.
func (x natural) shiftedLeft(n int) natural {
	shifted := make(natural, len(x)+1)
	carry := uint64(0)
	for i := range shifted {
		carry |= x.limb(i) << n
		shifted[i] = uint32(carry)
		carry >>= limbBits
	}
	return shifted
}

// shiftedRight returns x / 2^n, rounded down. n must be less than limbBits.
func (x natural) shiftedRight(n int) natural {
	shifted := make(natural, len(x))
	for i := range shifted {
		shifted[i] = uint32((x.limb(i+1)<<limbBits | x.limb(i)) >> n)
	}
	return shifted.trim()
}

// divide returns the quotient, rounded down, and the rest. y must not be 0.
func (x natural) divide(y natural) (quotient, rest natural) {
	if x.compare(y) < 0 {
		return nil, x
	}
	if len(y) > 1 {
		return x.divideLong(y)
	}
	quotient = make(natural, len(x))
	r := quotient.setQuotient(x, y[0])
	return quotient.trim(), natural64(uint64(r))
}

// setQuotient sets q, which is as long as x and may be x itself, to x / y, and returns the rest.
func (q natural) setQuotient(x natural, y uint32) uint32 {
	rest := uint64(0)
	for i := len(x) - 1; i >= 0; i-- {
		rest = rest<<limbBits | uint64(x[i])
		q[i] = uint32(rest / uint64(y))
		rest %= uint64(y)
	}
	return uint32(rest)
}

// divideLong divides by a number of at least two limbs that is not greater than x: Knuth's algorithm D. Behind the shift the highest bit of the divisor is 1, so that an estimate from the highest limbs is too great by at most 1.
func (x natural) divideLong(y natural) (quotient, rest natural) {
	n := len(y)
	shift := bits.LeadingZeros32(y[n-1])
	divisor := y.shiftedLeft(shift)[:n]
	rest = x.shiftedLeft(shift)
	quotient = make(natural, len(x)-n+1)
	for i := len(quotient) - 1; i >= 0; i-- {
		part := rest[i : i+n+1]
		q := part.estimate(divisor)
		if part.subtractProduct(divisor, q) {
			q--
			part.addBack(divisor)
		}
		quotient[i] = uint32(q)
	}
	return quotient.trim(), rest.shiftedRight(shift)
}

// estimate returns the limb x / y, or one more. x has one limb more than y and is less than y * 2^32.
func (x natural) estimate(y natural) uint64 {
	n := len(y)
	high := uint64(x[n])<<limbBits | uint64(x[n-1])
	first, second := uint64(y[n-1]), uint64(y[n-2])
	q, r := high/first, high%first
	for r>>limbBits == 0 && (q>>limbBits != 0 || q*second > r<<limbBits|uint64(x[n-2])) {
		q--
		r += first
	}
	return q
}

// subtractProduct subtracts y * q from x, which has one limb more than y, and reports whether the result is negative; then it is too great by 2^32 to the power of the length of x.
func (x natural) subtractProduct(y natural, q uint64) bool {
	carry, borrow := uint64(0), uint64(0)
	for i := range x {
		carry += y.limb(i) * q
		d := uint64(x[i]) - carry&(1<<limbBits-1) - borrow
		x[i] = uint32(d)
		borrow = d >> (2*limbBits - 1)
		carry >>= limbBits
	}
	return borrow != 0
}

// addBack adds y to x, which has one limb more; what is carried out of x makes up for the borrow of subtractProduct.
func (x natural) addBack(y natural) {
	carry := uint64(0)
	for i := range x {
		carry += uint64(x[i]) + y.limb(i)
		x[i] = uint32(carry)
		carry >>= limbBits
	}
}
