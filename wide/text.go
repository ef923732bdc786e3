package wide

import (
	"slices"
	"strconv"
	"strings"
)

// Decimal digits are read and written as many at a time as fit into a limb.
const (
	chunkDigits = 9
	chunkBase   = 1000000000
)

// shortDigits is how many digits are a short number, whichever they are.
const shortDigits = 18

// Read returns the integer of a text: decimal digits, perhaps behind a -. Of any other text it is some integer.
func Read(text string) Int {
	if len(text) <= shortDigits {
		n, _ := strconv.Atoi(text)
		return Int{word: n}
	}
	digits, negative := strings.CutPrefix(text, "-")
	return signed(negative, readNatural(digits))
}

func readNatural(digits string) natural {
	x := make(natural, 0, len(digits)/chunkDigits+1)
	for len(digits) > 0 {
		n := (len(digits)-1)%chunkDigits + 1 // only the first chunk is short: there is nothing yet that it could scale
		chunk, _ := strconv.ParseUint(digits[:n], 10, limbBits)
		digits = digits[n:]
		x = x.scaleAdd(chunkBase, chunk)
	}
	return x
}

// scaleAdd returns x * factor + summand, in the memory of x. factor and summand must be limbs.
func (x natural) scaleAdd(factor, summand uint64) natural {
	for i := range x {
		summand += uint64(x[i]) * factor
		x[i] = uint32(summand)
		summand >>= limbBits
	}
	if summand > 0 {
		x = append(x, uint32(summand))
	}
	return x
}

// Digits returns the decimal digits of |a|, without zeros in front; "0" for 0.
func (a Int) Digits() string {
	if a.short() {
		return strconv.FormatUint(magnitude(a.word), 10)
	}
	rest := slices.Clone(a.size)
	lowFirst := make([]byte, 0, len(rest)*10+chunkDigits) // a limb makes less than 10 digits
	for len(rest) > 0 {
		chunk := rest.setQuotient(rest, chunkBase)
		rest = rest.trim()
		for range chunkDigits {
			lowFirst = append(lowFirst, byte('0'+chunk%10))
			chunk /= 10
		}
	}
	slices.Reverse(lowFirst)
	return strings.TrimLeft(string(lowFirst), "0")
}
