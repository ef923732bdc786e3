package rational

import (
	"strings"

	"joinlearn/api"
	"joinlearn/integer"
	"joinlearn/wide"
)

// cut returns what is before and behind the first /, and whether there is one.
func cut(a api.Rat) (num, den api.Int, divided bool) {
	before, behind, divided := strings.Cut(string(a), "/")
	return api.Int(before), api.Int(behind), divided
}

// digits is Digits for a valid a.
func digits(a api.Rat) int {
	num, den, _ := cut(a)
	return max(len(strings.TrimPrefix(string(num), "-")), len(den))
}

// read returns the fraction of a, and whether a is canonical.
func read(a api.Rat) (wide.Rat, bool) {
	num, den, divided := cut(a)
	if !integer.Valid(num) {
		return wide.Rat{}, false
	}
	if divided && (integer.Compare(den, "2") < 0 || !integer.Valid(den)) {
		return wide.Rat{}, false
	}
	f := wide.ReadRat(a)
	if divided && f.Num().Gcd(f.Den()).Compare(wide.Make(1)) != 0 { // it is the denominator for the numerator 0, which so is not canonical
		return wide.Rat{}, false
	}
	return f, true
}

// readPair reads two fractions; ok says whether both are canonical.
func readPair(a, b api.Rat) (x, y wide.Rat, ok bool) {
	x, okX := read(a)
	y, okY := read(b)
	return x, y, okX && okY
}

// readInt returns the number of a valid Int.
func readInt(a api.Int) wide.Int {
	return wide.Read(string(a))
}
