package rational

import (
	"strings"

	"joinlearn/api"
	"joinlearn/integer"
	"joinlearn/wide"
)

// cut returns what is before and behind the first /, and whether there is one.
func cut(a api.Rat) (num, den api.Int, divided bool) {
	before, behind, divided := strings.Cut(string(a), "/")
	return api.Int(before), api.Int(behind), divided
}

// digits is Digits for a valid a.
func digits(a api.Rat) int {
	num, den, _ := cut(a)
	return max(len(strings.TrimPrefix(string(num), "-")), len(den))
}

// read returns the fraction of a, and whether a is canonical.
func read(a api.Rat) (fraction, bool) {
	num, den, divided := cut(a)
	if !integer.Valid(num) {
		return fraction{}, false
	}
	if !divided {
		return whole(readInt(num)), true
	}
	if integer.Compare(den, "2") < 0 || !integer.Valid(den) {
		return fraction{}, false
	}
	f := fraction{readInt(num), readInt(den)}
	if f.num.Gcd(f.den).Compare(wide.Make(1)) != 0 { // it is den for the numerator 0, which so is not canonical
		return fraction{}, false
	}
	return f, true
}

// readPair reads two fractions; ok says whether both are canonical.
func readPair(a, b api.Rat) (x, y fraction, ok bool) {
	x, okX := read(a)
	y, okY := read(b)
	return x, y, okX && okY
}

// readInt returns the number of a valid Int.
func readInt(a api.Int) wide.Int {
	return wide.Read(string(a))
}

// write returns the Rat of a fraction, if its parts do not have too many digits.
func write(f fraction) (api.Rat, api.Errno) {
	num, den := f.num.Digits(), f.den.Digits()
	if max(len(num), len(den)) > api.MaxDigits {
		return "", api.ErrLimit
	}
	if f.num.Sign() < 0 {
		num = "-" + num
	}
	if den == "1" {
		return api.Rat(num), api.OK
	}
	return api.Rat(num + "/" + den), api.OK
}
