package wide

import (
	"math/big"
	"math/rand"
	"strings"
	"testing"

	"joinlearn/api"
)

// referenceRat returns the fraction as one of math/big.
func referenceRat(a Rat) *big.Rat {
	return new(big.Rat).SetFrac(reference(a.Num()), reference(a.Den()))
}

// checkRat compares a result with the expected fraction, and demands lowest terms.
func checkRat(t *testing.T, name string, got Rat, want *big.Rat) {
	t.Helper()
	check(t, "numerator of "+name, got.Num(), want.Num())
	check(t, "denominator of "+name, got.Den(), want.Denom())
}

// someRats returns fractions of all sizes and both signs, the zero value among them, many of them with common divisors.
func someRats() []Rat {
	list := []Rat{{}, Whole(Int{}), Whole(Make(1)), Whole(Make(-1)), MakeRat(Make(6), Make(-4)), MakeRat(Make(1), Make(maxShort)), MakeRat(Make(-maxShort), Make(2))}
	r := rand.New(rand.NewSource(5))
	parts := some(r, 12, 3)
	for _, num := range parts {
		for _, den := range parts {
			if den.Sign() != 0 && r.Intn(2) == 0 {
				list = append(list, MakeRat(num, den))
			}
		}
	}
	return list
}

func TestMakeRat(t *testing.T) {
	parts := append(some(rand.New(rand.NewSource(6)), 30, 4), Make(6), Make(-4), Make(1), Make(-1))
	for _, num := range parts {
		checkRat(t, "whole number", Whole(num), new(big.Rat).SetInt(reference(num)))
		for _, den := range parts {
			want := new(big.Rat)
			if den.Sign() != 0 {
				want.SetFrac(reference(num), reference(den))
			}
			checkRat(t, "fraction", MakeRat(num, den), want)
		}
	}
}

func TestRatOperations(t *testing.T) {
	list := someRats()
	for _, a := range list {
		x := referenceRat(a)
		checkRat(t, "negative", a.Negated(), new(big.Rat).Neg(x))
		if a.Sign() != x.Sign() {
			t.Errorf("sign of %v: %v", x, a.Sign())
		}
		for _, b := range list {
			y := referenceRat(b)
			checkRat(t, "sum", a.Plus(b), new(big.Rat).Add(x, y))
			checkRat(t, "difference", a.Minus(b), new(big.Rat).Sub(x, y))
			checkRat(t, "product", a.Times(b), new(big.Rat).Mul(x, y))
			quotient := new(big.Rat)
			if y.Sign() != 0 {
				quotient.Quo(x, y)
			}
			checkRat(t, "quotient", a.Over(b), quotient)
			if a.Compare(b) != x.Cmp(y) {
				t.Errorf("%v and %v: %v", x, y, a.Compare(b))
			}
		}
	}
}

func TestRatText(t *testing.T) {
	for _, a := range someRats() {
		text, e := a.Write()
		if text != api.Rat(referenceRat(a).RatString()) || e != api.OK {
			t.Errorf("text of %v: %v %v", referenceRat(a), text, e)
		}
		checkRat(t, "text", ReadRat(text), referenceRat(a))
	}
	full := strings.Repeat("9", api.MaxDigits)
	for _, text := range []string{full, "-" + full, "1/" + full, "-" + full + "/7"} {
		if got, e := ReadRat(api.Rat(text)).Write(); string(got) != text || e != api.OK {
			t.Errorf("text of %v: %v %v", text, got, e)
		}
	}
	for _, text := range []string{full + "9", "-" + full + "9", "1/" + full + "8", full + "1/2"} {
		if got, e := ReadRat(api.Rat(text)).Write(); got != "" || e != api.ErrLimit {
			t.Errorf("text of %v: %v %v", text, got, e)
		}
	}
}
