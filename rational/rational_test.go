package rational_test

import (
	"math"
	"math/big"
	"math/rand"
	"slices"
	"strings"
	"testing"

	"joinlearn/api"
	"joinlearn/integer"
	"joinlearn/rational"
)

// Numbers at the limit, and the first ones beyond it. None of them has a common divisor with its neighbours.
var (
	nines   = strings.Repeat("9", api.MaxDigits)
	eights  = nines[1:] + "8"
	sevens  = nines[1:] + "7"
	beyond  = "1" + strings.Repeat("0", api.MaxDigits)
	longest = []api.Rat{
		api.Rat(nines), api.Rat("-" + nines), api.Rat("1/" + nines), api.Rat("-1/" + nines),
		api.Rat(nines + "/" + eights), api.Rat("-" + nines + "/" + eights), api.Rat(eights + "/" + nines), api.Rat("-" + eights + "/" + sevens),
	}
)

// notNumbers are texts that are not canonical.
var notNumbers = []api.Rat{
	"", "/", "-", "-/", "/2", "-/2", "1/", "1/-", "1//2", "1/2/", "/1/2", "1/2/3", "1/2/0", "x", "1/x", "x/2", "1\\2", "1:2", "0.5",
	"-0", "007", "+1", "+1/2", "1/+2", "01/2", "1/02", "1/00002", "--1/2", "1a/2", "1/2a", " 1/2", "1 /2", "1/ 2", "1/2 ", "1/2\n", "\x001/2",
	"1/1", "5/1", "-5/1", "0/1", "0/2", "0/7", "-0/2", "1/0", "-1/0", "0/0", "1/-2", "-1/-2", "3/-1", "1/-0",
	"2/4", "-2/4", "6/4", "4/2", "-4/2", "10/5", "2/2", "3/3", "-9/6", "1000000007/2000000014",
	"\uff11/2", "1\u20442", "\u00bd", "\xff/2",
	api.Rat(beyond), api.Rat("-" + beyond), api.Rat(beyond + "/7"), api.Rat("1/" + beyond), api.Rat("7/" + nines + "8"), api.Rat("0" + nines),
	api.Rat(nines + "/" + nines), api.Rat("-" + nines + "/9"), api.Rat("11/" + nines), api.Rat(eights + "/" + nines[1:] + "6"),
	api.Rat(strings.Repeat("7", 100000)), api.Rat("1/" + strings.Repeat("7", 100000)), api.Rat(strings.Repeat("/", 1000)),
}

// same compares a result with what is expected.
func same[T comparable](t *testing.T, name string, got, want T) {
	t.Helper()
	if got != want {
		t.Errorf("%s: %v, not %v", name, got, want)
	}
}

// sameResult compares a number and an error with what is expected.
func sameResult[T comparable](t *testing.T, name string, got T, e api.Errno, want T, wantError api.Errno) {
	t.Helper()
	if got != want || e != wantError {
		t.Errorf("%s: %v %v, not %v %v", name, got, e, want, wantError)
	}
}

// reference returns the number as one of math/big.
func reference(a api.Rat) *big.Rat {
	n, ok := new(big.Rat).SetString(string(a))
	if !ok {
		panic("no number: " + string(a))
	}
	return n
}

// digitsOf counts the digits of a number.
func digitsOf(n *big.Int) int {
	return len(new(big.Int).Abs(n).String())
}

// canonical returns the text of a number, and ErrLimit if it has too many digits.
func canonical(n *big.Rat) (api.Rat, api.Errno) {
	if digitsOf(n.Num()) > api.MaxDigits || digitsOf(n.Denom()) > api.MaxDigits {
		return "", api.ErrLimit
	}
	return api.Rat(n.RatString()), api.OK
}

// samples returns fractions of all sizes, of both signs, ascending, many of them with common divisors.
func samples() []api.Rat {
	parts := []*big.Int{
		reference("1000000000000").Num(), reference(api.Rat(nines)).Num(), reference(api.Rat(eights)).Num(),
		new(big.Int).Exp(big.NewInt(6), big.NewInt(30), nil), new(big.Int).Exp(big.NewInt(10), big.NewInt(200), nil),
		new(big.Int).MulRange(1, 25), new(big.Int).MulRange(20, 180), new(big.Int).Lsh(big.NewInt(1), 62), new(big.Int).Lsh(big.NewInt(3), 31),
	}
	for _, n := range []int64{1, 2, 3, 4, 5, 6, 9, 12, 35, 720720, 999999999, 1000000000, 4294967296, math.MaxInt64} {
		parts = append(parts, big.NewInt(n))
	}
	texts := []api.Rat{"0"}
	for _, num := range parts {
		for _, den := range parts {
			n := new(big.Rat).SetFrac(num, den)
			texts = append(texts, api.Rat(n.RatString()), api.Rat(n.Neg(n).RatString()))
		}
	}
	slices.SortFunc(texts, func(a, b api.Rat) int { return reference(a).Cmp(reference(b)) })
	return slices.Compact(texts)
}

// some returns pseudo-random fractions with at most the given number of digits.
func some(r *rand.Rand, count, digits int) []api.Rat {
	random := func() *big.Int {
		end := new(big.Int).Exp(big.NewInt(10), big.NewInt(int64(1+r.Intn(digits))), nil)
		return new(big.Int).Rand(r, end)
	}
	list := make([]api.Rat, count)
	for i := range list {
		den := random()
		if den.Sign() == 0 || r.Intn(4) == 0 {
			den = big.NewInt(1)
		}
		num := random()
		if r.Intn(2) == 0 {
			num.Neg(num)
		}
		list[i] = api.Rat(new(big.Rat).SetFrac(num, den).RatString())
	}
	return list
}

// P2.1

func TestValid(t *testing.T) {
	for _, a := range append(samples(), longest...) {
		same(t, "valid "+string(a), rational.Valid(a), true)
	}
	for _, a := range notNumbers {
		same(t, "valid "+string(a), rational.Valid(a), false)
	}
}

// TestValidParts tries all fractions of short parts, canonical or not.
func TestValidParts(t *testing.T) {
	for num := -30; num <= 30; num++ {
		for den := -3; den <= 30; den++ {
			a := api.Rat(string(integer.Make(num)) + "/" + string(integer.Make(den)))
			divisor, _ := integer.Gcd(integer.Make(num), integer.Make(den))
			same(t, "valid "+string(a), rational.Valid(a), num != 0 && den >= 2 && divisor == "1")
		}
	}
}

func TestMake(t *testing.T) {
	for _, x := range []struct {
		num, den string
		want     api.Rat
	}{
		{"6", "-4", "-3/2"}, {"-6", "-4", "3/2"}, {"-6", "4", "-3/2"}, {"6", "4", "3/2"}, {"3", "2", "3/2"}, {"1", "1", "1"}, {"8", "4", "2"},
		{"0", "5", "0"}, {"0", "-5", "0"}, {"0", "1", "0"}, {"-7", "1", "-7"}, {"7", "-1", "-7"}, {"-8", "-8", "1"}, {"1", "-2", "-1/2"},
		{nines, "1", api.Rat(nines)}, {nines, "-1", api.Rat("-" + nines)}, {"-1", "-" + nines, api.Rat("1/" + nines)},
		{nines, "-" + eights, api.Rat("-" + nines + "/" + eights)}, {nines, "9", api.Rat(strings.Repeat("1", api.MaxDigits))}, {nines, nines, "1"},
	} {
		got, e := rational.Make(api.Int(x.num), api.Int(x.den))
		sameResult(t, x.num+" / "+x.den, got, e, x.want, api.OK)
	}
	for num := int64(-40); num <= 40; num++ {
		for den := int64(-40); den <= 40; den++ {
			if den != 0 {
				got, e := rational.Make(integer.Make(int(num)), integer.Make(int(den)))
				sameResult(t, "fraction", got, e, api.Rat(big.NewRat(num, den).RatString()), api.OK)
			}
		}
	}
}

func TestMakeErrors(t *testing.T) {
	for _, bad := range []api.Int{"", "x", "-0", "01", "1/2", api.Int(beyond)} {
		for _, other := range []api.Int{"0", "1", "-3", bad} {
			got, e := rational.Make(bad, other)
			sameResult(t, "numerator "+string(bad), got, e, "", api.ErrNumber)
			got, e = rational.Make(other, bad)
			sameResult(t, "denominator "+string(bad), got, e, "", api.ErrNumber)
		}
	}
	for _, num := range []api.Int{"0", "1", "-1", api.Int(nines)} {
		got, e := rational.Make(num, "0")
		sameResult(t, "denominator 0", got, e, "", api.ErrZero)
	}
}

func TestWhole(t *testing.T) {
	for n, want := range map[int]api.Rat{
		0: "0", 1: "1", -1: "-1", 12: "12", -1000000000: "-1000000000",
		math.MaxInt64: "9223372036854775807", math.MinInt64: "-9223372036854775808",
	} {
		same(t, "whole", rational.Whole(n), want)
	}
}

func TestParts(t *testing.T) {
	for _, a := range append(samples(), longest...) {
		num, den, ok := rational.Parts(a)
		same(t, "numerator of "+string(a), string(num), reference(a).Num().String())
		same(t, "denominator of "+string(a), string(den), reference(a).Denom().String())
		same(t, "parts of "+string(a), ok, true)
	}
	for _, a := range notNumbers {
		num, den, ok := rational.Parts(a)
		same(t, "numerator of "+string(a), num, "")
		same(t, "denominator of "+string(a), den, "")
		same(t, "parts of "+string(a), ok, false)
	}
}

func TestDigits(t *testing.T) {
	for a, want := range map[api.Rat]int{
		"0": 1, "1": 1, "-1": 1, "10": 2, "-10": 2, "1/2": 1, "-1/2": 1, "-9/10": 2, "10/9": 2, "-100/99": 3, "-99/100": 3, "-123/1000": 4,
	} {
		same(t, "digits of "+string(a), rational.Digits(a), want)
	}
	for _, a := range samples() {
		n := reference(a)
		same(t, "digits of "+string(a), rational.Digits(a), max(digitsOf(n.Num()), digitsOf(n.Denom())))
	}
	for _, a := range longest {
		same(t, "digits of "+string(a), rational.Digits(a), api.MaxDigits)
	}
	for _, a := range notNumbers {
		same(t, "digits of "+string(a), rational.Digits(a), 0)
	}
}

// P2.2

func TestSign(t *testing.T) {
	for _, a := range append(samples(), longest...) {
		same(t, "sign of "+string(a), rational.Sign(a), reference(a).Sign())
	}
	for _, a := range notNumbers {
		same(t, "sign of "+string(a), rational.Sign(a), 0)
	}
}

func TestCompare(t *testing.T) {
	var list []api.Rat
	for i, a := range samples() {
		if i%3 == 0 {
			list = append(list, a)
		}
	}
	for i, a := range list {
		for j, b := range list {
			want := 0
			if i < j {
				want = -1
			} else if i > j {
				want = 1
			}
			if got := rational.Compare(a, b); got != want {
				t.Fatalf("%v and %v: %v, not %v", a, b, got, want)
			}
		}
	}
	for _, a := range notNumbers {
		for _, b := range []api.Rat{"0", "-5", "7/2", longest[5], a} {
			same(t, string(a)+" and "+string(b), rational.Compare(a, b), 0)
			same(t, string(b)+" and "+string(a), rational.Compare(b, a), 0)
		}
	}
}

// P2.3

// operation is one of the four operations, and what it ought to be.
type operation struct {
	name  string
	apply func(a, b api.Rat) (api.Rat, api.Errno)
	want  func(z, a, b *big.Rat) *big.Rat
}

func operations() []operation {
	return []operation{
		{"Add", rational.Add, (*big.Rat).Add},
		{"Sub", rational.Sub, (*big.Rat).Sub},
		{"Mul", rational.Mul, (*big.Rat).Mul},
		{"Div", rational.Div, (*big.Rat).Quo},
	}
}

func TestOperations(t *testing.T) {
	r := rand.New(rand.NewSource(1))
	all := samples()
	firsts := slices.Concat(some(r, 60, 3), some(r, 60, 20), some(r, 40, 250), longest)
	seconds := append(some(r, 60, 4), longest...)
	for i := 0; i < len(all); i += 9 {
		firsts = append(firsts, all[i])
	}
	for i := 0; i < len(all); i += 7 {
		seconds = append(seconds, all[i])
	}
	for _, o := range operations() {
		for _, a := range firsts {
			for _, b := range seconds {
				if o.name == "Div" && b == "0" {
					continue
				}
				want, wantError := canonical(o.want(new(big.Rat), reference(a), reference(b)))
				if got, e := o.apply(a, b); got != want || e != wantError {
					t.Fatalf("%s of %v and %v: %v %v, not %v %v", o.name, a, b, got, e, want, wantError)
				}
			}
		}
	}
}

// TestLimit has results at the limit and the first ones beyond it, on ways that are much longer.
func TestLimit(t *testing.T) {
	a, b, c := api.Rat(nines+"/"+eights), api.Rat(eights+"/"+sevens), api.Rat(sevens+"/"+eights)
	power := api.Rat("1" + strings.Repeat("0", api.MaxDigits-1))
	for _, x := range []struct {
		name  string
		apply func(a, b api.Rat) (api.Rat, api.Errno)
		a, b  api.Rat
		want  api.Rat
		e     api.Errno
	}{
		{"greatest sum", rational.Add, api.Rat(eights), "1", api.Rat(nines), api.OK},
		{"sum too great", rational.Add, api.Rat(nines), "1", "", api.ErrLimit},
		{"numerator of a sum too great", rational.Add, api.Rat(nines), "1/2", "", api.ErrLimit},
		{"denominator of a sum too great", rational.Add, "1/" + power, "1/13", "", api.ErrLimit},
		{"sum with a common denominator", rational.Add, a, "-1/" + api.Rat(eights), "1", api.OK},
		{"sum that vanishes", rational.Add, a, "-" + a, "0", api.OK},
		{"difference that vanishes", rational.Sub, a, a, "0", api.OK},
		{"difference too small", rational.Sub, api.Rat("-" + nines), "1", "", api.ErrLimit},
		{"difference of long fractions", rational.Sub, a, b, "", api.ErrLimit},
		{"longest product", rational.Mul, power, "9", "9" + power[1:], api.OK},
		{"product too great", rational.Mul, power, "10", "", api.ErrLimit},
		{"denominator of a product too great", rational.Mul, "1/" + power, "1/10", "", api.ErrLimit},
		{"product that cancels", rational.Mul, a, b, api.Rat(nines + "/" + sevens), api.OK},
		{"product that cancels to 1", rational.Mul, b, c, "1", api.OK},
		{"product with 0", rational.Mul, a, "0", "0", api.OK},
		{"quotient that cancels", rational.Div, a, c, api.Rat(nines + "/" + sevens), api.OK},
		{"quotient by itself", rational.Div, "-" + a, a, "-1", api.OK},
		{"inverse", rational.Div, "1", "-" + a, api.Rat("-" + eights + "/" + nines), api.OK},
		{"quotient too great", rational.Div, power, "1/10", "", api.ErrLimit},
		{"quotient too small", rational.Div, "-1/" + power, "10", "", api.ErrLimit},
	} {
		got, e := x.apply(x.a, x.b)
		sameResult(t, x.name, got, e, x.want, x.e)
	}
}

// TestNoNumber also meets arguments to which a later error applies.
func TestNoNumber(t *testing.T) {
	for _, a := range notNumbers {
		for _, b := range []api.Rat{"0", "1", "-1/2", longest[4], a} {
			for _, o := range operations() {
				got, e := o.apply(a, b)
				sameResult(t, o.name, got, e, "", api.ErrNumber)
				got, e = o.apply(b, a)
				sameResult(t, o.name, got, e, "", api.ErrNumber)
			}
		}
	}
}

func TestDivByZero(t *testing.T) {
	for _, a := range append([]api.Rat{"0", "1", "-1/2"}, longest...) {
		got, e := rational.Div(a, "0")
		sameResult(t, "by 0", got, e, "", api.ErrZero)
	}
	got, e := rational.Div("0", "-2/3")
	sameResult(t, "0 by a number", got, e, "0", api.OK)
}

// P2.4

// referenceDot adds the products of two lists.
func referenceDot(a, b []api.Rat) *big.Rat {
	sum := new(big.Rat)
	for i := range a {
		sum.Add(sum, new(big.Rat).Mul(reference(a[i]), reference(b[i])))
	}
	return sum
}

func TestSumAndDot(t *testing.T) {
	r := rand.New(rand.NewSource(2))
	for _, digits := range []int{1, 2, 5, 20, 60, 400} {
		for count := range min(40, api.MaxSum/digits) {
			a, b, ones := some(r, count, digits), some(r, count, digits), slices.Repeat([]api.Rat{"1"}, count)
			keptA, keptB := slices.Clone(a), slices.Clone(b)
			want, wantError := canonical(referenceDot(a, ones))
			got, e := rational.Sum(a)
			sameResult(t, "sum", got, e, want, wantError)
			want, wantError = canonical(referenceDot(a, b))
			got, e = rational.Dot(a, b)
			sameResult(t, "product", got, e, want, wantError)
			same(t, "arguments kept", slices.Equal(a, keptA) && slices.Equal(b, keptB), true)
		}
	}
}

func TestSumOfNothing(t *testing.T) {
	for _, none := range [][]api.Rat{nil, {}} {
		got, e := rational.Sum(none)
		sameResult(t, "sum of nothing", got, e, "0", api.OK)
		got, e = rational.Dot(none, nil)
		sameResult(t, "product of nothing", got, e, "0", api.OK)
	}
}

// TestSumsOnTheWay has sums that are much longer on the way than in the end.
func TestSumsOnTheWay(t *testing.T) {
	var there, back, inverse []api.Rat
	for _, a := range longest[4:] {
		there = append(there, a)
		back = append(back, api.Rat(new(big.Rat).Neg(reference(a)).RatString()))
		inverse = append(inverse, api.Rat(new(big.Rat).Inv(reference(a)).RatString()))
	}
	got, e := rational.Sum(slices.Concat(there, []api.Rat{"2/3"}, back))
	sameResult(t, "sum there and back", got, e, "2/3", api.OK)
	got, e = rational.Dot(there, inverse)
	sameResult(t, "products with inverses", got, e, "4", api.OK)
	got, e = rational.Dot(append(there, there...), append(back, there...))
	sameResult(t, "squares there and back", got, e, "0", api.OK)
	got, e = rational.Dot([]api.Rat{api.Rat(nines), api.Rat(nines), "7"}, []api.Rat{api.Rat(nines), api.Rat("-" + nines), "1/2"})
	sameResult(t, "long products", got, e, "7/2", api.OK)
}

// sumCase is a list whose length times its digits is at MaxSum or beyond.
type sumCase struct {
	name string
	list []api.Rat
	want api.Rat
	e    api.Errno
}

func sumCases() []sumCase {
	long := api.Rat("1" + strings.Repeat("0", api.MaxDigits-1))
	many := func(count int, a api.Rat, others ...api.Rat) []api.Rat {
		return append(slices.Repeat([]api.Rat{a}, count-len(others)), others...)
	}
	return []sumCase{
		{"most of one digit", many(api.MaxSum, "1/2"), "3000", api.OK},
		{"one more", many(api.MaxSum+1, "1/2"), "", api.ErrLimit},
		{"one more, all 0", many(api.MaxSum+1, "0"), "", api.ErrLimit},
		{"most of two digits", many(api.MaxSum/2, "-1", "1/10"), "-29989/10", api.OK},
		{"one more, a single one of two digits", many(api.MaxSum/2+1, "1", "10"), "", api.ErrLimit},
		{"one more, two digits in a denominator", many(api.MaxSum/2+1, "1", "-1/10"), "", api.ErrLimit},
		{"the minus is no digit", many(api.MaxSum, "-9"), "-54000", api.OK},
		{"most of MaxDigits digits", many(api.MaxSum/api.MaxDigits, "0", "1/"+long), "1/" + long, api.OK},
		{"one more of MaxDigits digits", many(api.MaxSum/api.MaxDigits+1, "0", "1/"+long), "", api.ErrLimit},
		{"longest sum", []api.Rat{api.Rat(eights), "1"}, api.Rat(nines), api.OK},
		{"sum too great", []api.Rat{api.Rat(nines), "1"}, "", api.ErrLimit},
		{"denominator too great", []api.Rat{"1/" + long, "1/13"}, "", api.ErrLimit},
		{"very long list", many(100000, "1"), "", api.ErrLimit},
	}
}

func TestSumLimit(t *testing.T) {
	for _, x := range sumCases() {
		got, e := rational.Sum(x.list)
		sameResult(t, x.name, got, e, x.want, x.e)
		// Multiplied by 1 it is the same, whichever list has the digits.
		ones := slices.Repeat([]api.Rat{"1"}, len(x.list))
		got, e = rational.Dot(x.list, ones)
		sameResult(t, x.name, got, e, x.want, x.e)
		got, e = rational.Dot(ones, x.list)
		sameResult(t, x.name, got, e, x.want, x.e)
	}
}

func TestSumErrors(t *testing.T) {
	tooMany := slices.Repeat([]api.Rat{"1"}, api.MaxSum+1)
	for _, bad := range notNumbers {
		for _, l := range [][]api.Rat{{bad}, {"1", bad, "2"}, {bad, bad}, append(slices.Clone(tooMany), bad), {api.Rat(nines), api.Rat(nines), bad}} {
			got, e := rational.Sum(l)
			sameResult(t, "sum", got, e, "", api.ErrNumber)
			ones := slices.Repeat([]api.Rat{"1"}, len(l))
			got, e = rational.Dot(l, ones)
			sameResult(t, "first list", got, e, "", api.ErrNumber)
			got, e = rational.Dot(ones, l)
			sameResult(t, "second list", got, e, "", api.ErrNumber)
			got, e = rational.Dot(l, ones[1:])
			sameResult(t, "second list is shorter", got, e, "", api.ErrShape)
		}
		got, e := rational.Dot([]api.Rat{"0", "0"}, []api.Rat{"0", bad})
		sameResult(t, "times 0", got, e, "", api.ErrNumber)
	}
	for _, x := range [][2][]api.Rat{{nil, {"1"}}, {{"1"}, nil}, {{"1"}, {"1", "2"}}, {tooMany, tooMany[1:]}} {
		got, e := rational.Dot(x[0], x[1])
		sameResult(t, "shapes", got, e, "", api.ErrShape)
	}
}

func TestFloor(t *testing.T) {
	for a, want := range map[api.Rat]api.Int{
		"0": "0", "1/2": "0", "-1/2": "-1", "3/2": "1", "-3/2": "-2", "2": "2", "-2": "-2", "7/3": "2", "-7/3": "-3", "-6/7": "-1", "99/100": "0",
		api.Rat(nines + "/" + eights): "1", api.Rat("-" + nines + "/" + eights): "-2", api.Rat("-1/" + nines): "-1", api.Rat("-" + nines): api.Int("-" + nines),
	} {
		got, e := rational.Floor(a)
		sameResult(t, "floor of "+string(a), got, e, want, api.OK)
	}
	for _, a := range samples() {
		n := reference(a)
		want := new(big.Int).Div(n.Num(), n.Denom())
		got, e := rational.Floor(a)
		sameResult(t, "floor of "+string(a), got, e, api.Int(want.String()), api.OK)
	}
	for _, a := range notNumbers {
		got, e := rational.Floor(a)
		sameResult(t, "floor of "+string(a), got, e, "", api.ErrNumber)
	}
}

// T1

// must returns a result that is expected to exist.
func must(t *testing.T) func(a api.Rat, e api.Errno) api.Rat {
	return func(a api.Rat, e api.Errno) api.Rat {
		t.Helper()
		if e != api.OK {
			t.Fatalf("error %d", e)
		}
		return a
	}
}

func TestLaws(t *testing.T) {
	list := []api.Rat{"0", "1", "-1", "1/2", "-1/2", "2/3", "-12/35", "35/12", "4294967296/3", "-999999999/1000000000", "1/" + api.Rat(nines[:40]), "-" + api.Rat(eights[360:]+"/7")}
	get := must(t)
	for _, a := range list {
		for _, b := range list {
			same(t, "commutative sum", get(rational.Add(a, b)), get(rational.Add(b, a)))
			same(t, "commutative product", get(rational.Mul(a, b)), get(rational.Mul(b, a)))
			same(t, "difference undone", get(rational.Add(get(rational.Sub(a, b)), b)), a)
			if b != "0" {
				same(t, "quotient undone", get(rational.Mul(get(rational.Div(a, b)), b)), a)
			}
			same(t, "sum of two", get(rational.Sum([]api.Rat{a, b})), get(rational.Add(a, b)))
			same(t, "sign of a difference", rational.Sign(get(rational.Sub(a, b))), rational.Compare(a, b))
			for _, c := range list {
				same(t, "associative sum", get(rational.Add(get(rational.Add(a, b)), c)), get(rational.Add(a, get(rational.Add(b, c)))))
				same(t, "associative product", get(rational.Mul(get(rational.Mul(a, b)), c)), get(rational.Mul(a, get(rational.Mul(b, c)))))
				same(t, "distributive", get(rational.Mul(a, get(rational.Add(b, c)))), get(rational.Dot([]api.Rat{a, a}, []api.Rat{b, c})))
			}
		}
	}
}

// TestResultsAreCanonical checks that equal numbers are equal texts, whichever way they come about.
func TestResultsAreCanonical(t *testing.T) {
	get := must(t)
	for _, a := range samples() {
		num, den, _ := rational.Parts(a)
		same(t, "made of its parts", get(rational.Make(num, den)), a)
		same(t, "parts divided", get(rational.Div(api.Rat(num), api.Rat(den))), a)
		same(t, "subtracted twice", get(rational.Sub("0", get(rational.Sub("0", a)))), a)
		if a != "0" {
			same(t, "inverted twice", get(rational.Div("1", get(rational.Div("1", a)))), a)
		}
	}
}
