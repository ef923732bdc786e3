package integer_test

import (
	"math"
	"math/big"
	"slices"
	"strings"
	"testing"

	"joinlearn/api"
	"joinlearn/integer"
)

// Numbers at the limit, and the first ones beyond it.
var (
	nines   = api.Int(strings.Repeat("9", api.MaxDigits))
	beyond  = api.Int("1" + strings.Repeat("0", api.MaxDigits))
	longest = []api.Int{nines, "-" + nines, power(api.MaxDigits - 1), "-" + power(api.MaxDigits-1)}
)

// notNumbers are texts that are not canonical.
var notNumbers = []api.Int{
	"", "-", "--", "-0", "00", "-00", "007", "-01", "+0", "+1", "1+", "--1", "1-", "-1-", "- 1", " 1", "1 ", "1\n", "\x001",
	"1a", "a", "-a", "0x10", "1e3", "1.0", "1,000", "1_000", "1/2", ":", "1:", "/", "\xb1", "\xff", "\uff11", "\u0663", "\u22121",
	beyond, "-" + beyond, nines + "9", "0" + nines,
	api.Int(strings.Repeat("0", api.MaxDigits)), api.Int(strings.Repeat("-", api.MaxDigits)), api.Int(strings.Repeat("7", 100000)),
}

// power returns 10^n.
func power(n int) api.Int {
	return api.Int("1" + strings.Repeat("0", n))
}

// same compares a result with what is expected.
func same[T comparable](t *testing.T, name string, got, want T) {
	t.Helper()
	if got != want {
		t.Errorf("%s: %v, not %v", name, got, want)
	}
}

// reference returns the number as one of math/big.
func reference(a api.Int) *big.Int {
	n, ok := new(big.Int).SetString(string(a), 10)
	if !ok {
		panic("no number: " + string(a))
	}
	return n
}

// canonical returns the text of a number, and ErrLimit if it has too many digits.
func canonical(n *big.Int) (api.Int, api.Errno) {
	text := n.String()
	if len(strings.TrimPrefix(text, "-")) > api.MaxDigits {
		return "", api.ErrLimit
	}
	return api.Int(text), api.OK
}

// samples returns numbers of all sizes, of both signs, ascending, many of them next to powers of 2 and 10.
func samples() []api.Int {
	var list []*big.Int
	add := func(n *big.Int) {
		for d := int64(-1); d <= 1; d++ {
			m := new(big.Int).Add(n, big.NewInt(d))
			list = append(list, m, new(big.Int).Neg(m))
		}
	}
	add(big.NewInt(0))
	for _, bits := range []uint{1, 2, 3, 7, 31, 32, 33, 62, 63, 64, 65, 95, 96, 128, 400, 1000, 1328} {
		add(new(big.Int).Lsh(big.NewInt(1), bits))
	}
	for _, digits := range []int{1, 8, 9, 10, 17, 18, 19, 27, 36, 100, 200, 201, 398, 399} {
		add(reference(power(digits)))
	}
	for _, text := range []api.Int{"6", "12", "18", "360", "2520", "123456789", "987654321", "121932631112635269", nines} {
		add(reference(text))
	}
	slices.SortFunc(list, (*big.Int).Cmp)
	var texts []api.Int
	for _, n := range list {
		if text, e := canonical(n); e == api.OK {
			texts = append(texts, text)
		}
	}
	return slices.Compact(texts)
}

// P1.1

func TestValid(t *testing.T) {
	for _, a := range append(samples(), longest...) {
		same(t, "valid "+string(a), integer.Valid(a), true)
	}
	for _, a := range notNumbers {
		same(t, "valid "+string(a), integer.Valid(a), false)
	}
}

func TestMake(t *testing.T) {
	for n, want := range map[int]api.Int{
		0: "0", 1: "1", -1: "-1", 10: "10", -10: "-10", 1000000000: "1000000000", -999999999: "-999999999",
		math.MaxInt64: "9223372036854775807", math.MinInt64: "-9223372036854775808",
	} {
		same(t, "make", integer.Make(n), want)
	}
}

func TestSmall(t *testing.T) {
	for a, want := range map[api.Int]int{
		"0": 0, "1": 1, "-1": -1, "10": 10, "-4294967297": -4294967297,
		"4611686018427387903": 1<<62 - 1, "4611686018427387904": 1 << 62,
		"-4611686018427387903": 1 - 1<<62, "-4611686018427387904": -1 << 62,
	} {
		n, ok := integer.Small(a)
		same(t, "small "+string(a), n, want)
		same(t, "small "+string(a), ok, true)
	}
	tooGreat := []api.Int{
		"4611686018427387905", "-4611686018427387905", "9223372036854775807", "-9223372036854775808",
		"9223372036854775808", "-9223372036854775809", "18446744073709551616", "18446744073709551617",
	}
	for _, a := range slices.Concat(tooGreat, longest, notNumbers) {
		n, ok := integer.Small(a)
		same(t, "small "+string(a), n, 0)
		same(t, "small "+string(a), ok, false)
	}
}

// P1.2

func TestSign(t *testing.T) {
	for _, a := range samples() {
		same(t, "sign of "+string(a), integer.Sign(a), reference(a).Sign())
	}
	for _, a := range notNumbers {
		same(t, "sign of "+string(a), integer.Sign(a), 0)
	}
}

func TestCompare(t *testing.T) {
	list := samples()
	for i, a := range list {
		for j, b := range list {
			want := 0
			if i < j {
				want = -1
			} else if i > j {
				want = 1
			}
			same(t, string(a)+" and "+string(b), integer.Compare(a, b), want)
		}
	}
	for _, a := range notNumbers {
		for _, b := range []api.Int{"0", "-5", "7", nines, a, "x"} {
			same(t, string(a)+" and "+string(b), integer.Compare(a, b), 0)
			same(t, string(b)+" and "+string(a), integer.Compare(b, a), 0)
		}
	}
}

// P1.3

// operation is a function with one result, and what it ought to be.
type operation struct {
	name  string
	apply func(a, b api.Int) (api.Int, api.Errno)
	want  func(a, b *big.Int) *big.Int
}

func operations() []operation {
	return []operation{
		{"Add", integer.Add, func(a, b *big.Int) *big.Int { return new(big.Int).Add(a, b) }},
		{"Sub", integer.Sub, func(a, b *big.Int) *big.Int { return new(big.Int).Sub(a, b) }},
		{"Mul", integer.Mul, func(a, b *big.Int) *big.Int { return new(big.Int).Mul(a, b) }},
		{"Gcd", integer.Gcd, func(a, b *big.Int) *big.Int {
			return new(big.Int).GCD(nil, nil, new(big.Int).Abs(a), new(big.Int).Abs(b))
		}},
	}
}

func TestOperations(t *testing.T) {
	list := samples()
	for _, o := range operations() {
		for _, a := range list {
			for _, b := range list {
				want, wantError := canonical(o.want(reference(a), reference(b)))
				got, e := o.apply(a, b)
				if got != want || e != wantError {
					t.Fatalf("%s of %v and %v: %v %v, not %v %v", o.name, a, b, got, e, want, wantError)
				}
			}
		}
	}
}

func TestDiv(t *testing.T) {
	list := samples()
	for _, a := range list {
		for _, b := range list {
			if b == "0" {
				continue
			}
			q, r := new(big.Int).DivMod(reference(a), reference(b), new(big.Int))
			quotient, rest, e := integer.Div(a, b)
			if string(quotient) != q.String() || string(rest) != r.String() || e != api.OK {
				t.Fatalf("%v by %v: %v rest %v %v, not %v rest %v", a, b, quotient, rest, e, q, r)
			}
		}
	}
}

// TestDivRounds has the directions of rounding by themselves: down for positive divisors, up for negative ones.
func TestDivRounds(t *testing.T) {
	for _, x := range []struct{ a, b, quotient, rest api.Int }{
		{"7", "2", "3", "1"}, {"-7", "2", "-4", "1"}, {"7", "-2", "-3", "1"}, {"-7", "-2", "4", "1"},
		{"6", "2", "3", "0"}, {"-6", "2", "-3", "0"}, {"6", "-2", "-3", "0"}, {"-6", "-2", "3", "0"},
		{"1", "5", "0", "1"}, {"-1", "5", "-1", "4"}, {"1", "-5", "0", "1"}, {"-1", "-5", "1", "4"},
		{"0", "3", "0", "0"}, {"0", "-3", "0", "0"}, {"5", "1", "5", "0"}, {"-5", "-1", "5", "0"},
		{nines, "-1", "-" + nines, "0"}, {"-" + nines, "-1", nines, "0"}, {"-1", nines, "-1", nines[:api.MaxDigits-1] + "8"},
		{"1", "-" + nines, "0", "1"}, {"-" + nines, nines, "-1", "0"},
	} {
		quotient, rest, e := integer.Div(x.a, x.b)
		name := string(x.a) + " by " + string(x.b)
		same(t, name, quotient, x.quotient)
		same(t, name, rest, x.rest)
		same(t, name, e, api.OK)
	}
}

func TestGcdOfZeros(t *testing.T) {
	for _, x := range []struct{ a, b, want api.Int }{
		{"0", "0", "0"}, {"0", "5", "5"}, {"-5", "0", "5"}, {"0", "-" + nines, nines}, {"-12", "18", "6"}, {"-12", "-18", "6"}, {"1", "-1", "1"},
	} {
		got, e := integer.Gcd(x.a, x.b)
		same(t, "divisor", got, x.want)
		same(t, "divisor", e, api.OK)
	}
}

func TestLimit(t *testing.T) {
	half := power(api.MaxDigits / 2)
	for _, x := range []struct {
		name  string
		apply func(a, b api.Int) (api.Int, api.Errno)
		a, b  api.Int
		want  api.Int
		e     api.Errno
	}{
		{"greatest sum", integer.Add, nines, "0", nines, api.OK},
		{"sum too great", integer.Add, nines, "1", "", api.ErrLimit},
		{"least sum", integer.Add, "-" + nines[1:] + "0", "-9", "-" + nines, api.OK},
		{"sum too small", integer.Add, "-" + nines, "-1", "", api.ErrLimit},
		{"greatest difference", integer.Sub, nines[1:] + "0", "-9", nines, api.OK},
		{"difference too great", integer.Sub, nines, "-1", "", api.ErrLimit},
		{"difference too small", integer.Sub, "-" + nines, "1", "", api.ErrLimit},
		{"difference of great numbers", integer.Sub, nines, nines, "0", api.OK},
		{"product of MaxDigits digits", integer.Mul, half, power(api.MaxDigits/2 - 1), power(api.MaxDigits - 1), api.OK},
		{"negative product of MaxDigits digits", integer.Mul, "-" + half, power(api.MaxDigits/2 - 1), "-" + power(api.MaxDigits-1), api.OK},
		{"product of one digit more", integer.Mul, half, half, "", api.ErrLimit},
		{"negative product of one digit more", integer.Mul, half, "-" + half, "", api.ErrLimit},
		{"longest product", integer.Mul, nines, nines, "", api.ErrLimit},
		{"product with 0", integer.Mul, "-" + nines, "0", "0", api.OK},
		{"greatest divisor", integer.Gcd, nines, "-" + nines, nines, api.OK},
	} {
		got, e := x.apply(x.a, x.b)
		same(t, x.name, got, x.want)
		same(t, x.name, e, x.e)
	}
}

// TestNoNumber also meets arguments to which a later error applies.
func TestNoNumber(t *testing.T) {
	for _, a := range notNumbers {
		for _, b := range []api.Int{"0", "1", "-1", nines, a} {
			for _, x := range [][2]api.Int{{a, b}, {b, a}} {
				for _, o := range operations() {
					got, e := o.apply(x[0], x[1])
					same(t, o.name, got, "")
					same(t, o.name, e, api.ErrNumber)
				}
				quotient, rest, e := integer.Div(x[0], x[1])
				same(t, "quotient", quotient, "")
				same(t, "rest", rest, "")
				same(t, "Div", e, api.ErrNumber)
			}
		}
	}
}

func TestDivByZero(t *testing.T) {
	for _, a := range []api.Int{"0", "1", "-1", nines} {
		quotient, rest, e := integer.Div(a, "0")
		same(t, "quotient", quotient, "")
		same(t, "rest", rest, "")
		same(t, "Div", e, api.ErrZero)
	}
}

// must returns a result that is expected to exist.
func must(t *testing.T) func(a api.Int, e api.Errno) api.Int {
	return func(a api.Int, e api.Errno) api.Int {
		t.Helper()
		if e != api.OK {
			t.Fatalf("error %d", e)
		}
		return a
	}
}

// TestLaws checks the consequences that the chapter names.
func TestLaws(t *testing.T) {
	list := []api.Int{"0", "1", "-1", "7", "-12", "4294967296", "-999999999", power(40), "-" + power(33), "18446744073709551615"}
	get := must(t)
	for _, a := range list {
		for _, b := range list {
			same(t, "commutative sum", get(integer.Add(a, b)), get(integer.Add(b, a)))
			same(t, "commutative product", get(integer.Mul(a, b)), get(integer.Mul(b, a)))
			same(t, "difference undone", get(integer.Add(get(integer.Sub(a, b)), b)), a)
			for _, c := range list {
				same(t, "associative sum", get(integer.Add(get(integer.Add(a, b)), c)), get(integer.Add(a, get(integer.Add(b, c)))))
				same(t, "associative product", get(integer.Mul(get(integer.Mul(a, b)), c)), get(integer.Mul(a, get(integer.Mul(b, c)))))
				same(t, "distributive", get(integer.Mul(a, get(integer.Add(b, c)))), get(integer.Add(get(integer.Mul(a, b)), get(integer.Mul(a, c)))))
			}
		}
	}
}
