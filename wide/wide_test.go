package wide

import (
	"math"
	"math/big"
	"math/rand"
	"strings"
	"testing"
)

// reference returns the number as one of math/big, from its limbs and not from its text.
func reference(a Int) *big.Int {
	if len(a.size) == 0 {
		return big.NewInt(int64(a.word))
	}
	n := new(big.Int)
	for i := len(a.size) - 1; i >= 0; i-- {
		n.Lsh(n, limbBits).Or(n, big.NewInt(int64(a.size[i])))
	}
	return n.Mul(n, big.NewInt(int64(a.word)))
}

// check compares a result with the expected number, and demands the one form of it.
func check(t *testing.T, name string, got Int, want *big.Int) {
	t.Helper()
	if reference(got).Cmp(want) != 0 {
		t.Fatalf("%s: %v, not %v", name, reference(got), want)
	}
	short := new(big.Int).Abs(want).Cmp(big.NewInt(1<<62)) < 0
	n := len(got.size)
	if short != (n == 0) || !short && (got.size[n-1] == 0 || got.word != want.Sign()) {
		t.Fatalf("%s: %v has another form than %v", name, got, want)
	}
}

// awkward returns all numbers of n limbs, or fewer, whose limbs lie at the ends of what estimates of quotients treat alike.
func awkward(n int) []Int {
	list := []Int{{}}
	for range n {
		var longer []Int
		for _, a := range list {
			for _, limb := range []uint32{0, 1, 1<<31 - 1, 1 << 31, 1<<32 - 2, 1<<32 - 1} {
				longer = append(longer, signed(false, append(natural{limb}, a.limbs()...).trim()))
			}
		}
		list = longer
	}
	return list
}

// some returns pseudo-random numbers of both signs with at most the given number of limbs.
func some(r *rand.Rand, count, limbs int) []Int {
	list := []Int{{}}
	for range count {
		size := make(natural, r.Intn(limbs+1))
		for i := range size {
			size[i] = r.Uint32() >> r.Intn(32)
		}
		list = append(list, signed(r.Intn(2) == 0, size.trim()))
	}
	return list
}

func checkPair(t *testing.T, a, b Int) {
	t.Helper()
	x, y := reference(a), reference(b)
	check(t, "sum", a.Plus(b), new(big.Int).Add(x, y))
	check(t, "difference", a.Minus(b), new(big.Int).Sub(x, y))
	check(t, "negative", a.Negated(), new(big.Int).Neg(x))
	check(t, "product", a.Times(b), new(big.Int).Mul(x, y))
	check(t, "divisor", a.Gcd(b), new(big.Int).GCD(nil, nil, new(big.Int).Abs(x), new(big.Int).Abs(y)))
	checkDivision(t, a, b)
	if a.Compare(b) != x.Cmp(y) || b.Compare(a) != y.Cmp(x) {
		t.Fatalf("%v and %v are compared wrongly", x, y)
	}
	if reference(a).Cmp(x) != 0 || reference(b).Cmp(y) != 0 {
		t.Fatalf("%v or %v was changed", x, y)
	}
}

func checkDivision(t *testing.T, a, b Int) {
	t.Helper()
	q, r := a.Divide(b)
	if b.Sign() == 0 {
		check(t, "quotient by 0", q, new(big.Int))
		check(t, "rest by 0", r, new(big.Int))
		return
	}
	quotient, rest := new(big.Int).DivMod(reference(a), reference(b), new(big.Int))
	check(t, "quotient", q, quotient)
	check(t, "rest", r, rest)
}

func TestPairs(t *testing.T) {
	r := rand.New(rand.NewSource(1))
	for _, limbs := range []int{1, 2, 3, 8, 50} {
		list := some(r, 40, limbs)
		for _, a := range list {
			for _, b := range list {
				checkPair(t, a, b)
			}
		}
	}
}

func TestAwkwardPairs(t *testing.T) {
	list := awkward(3)
	for i, a := range list {
		for _, b := range list[:i+1] {
			checkPair(t, a, b)
		}
	}
}

// TestShortPairs has numbers next to those where a result stops being a short one.
func TestShortPairs(t *testing.T) {
	var list []Int
	for _, n := range []int{0, 3, 1 << 30, 1 << 31, 1 << 32, 1 << 61, 1 << 62, math.MaxInt - 2} {
		for d := range 5 {
			list = append(list, Make(n+d-2), Make(-n+d-2))
		}
	}
	for _, a := range list {
		for _, b := range list {
			checkPair(t, a, b)
		}
	}
}

func TestMake(t *testing.T) {
	for _, n := range []int{0, 1, -1, 7, 1<<62 - 1, 1 - 1<<62, 1 << 62, -1 << 62, math.MaxInt, math.MinInt} {
		check(t, "made", Make(n), big.NewInt(int64(n)))
	}
}

// TestLongDivision meets the corrections of the estimates of quotients, which pseudo-random numbers hardly ever do.
func TestLongDivision(t *testing.T) {
	divisors := append(awkward(2), awkward(3)...)
	for _, a := range awkward(4) {
		for _, b := range divisors {
			checkDivision(t, a, b)
		}
	}
}

func TestGcdOfMultiples(t *testing.T) {
	r := rand.New(rand.NewSource(2))
	for range 2000 {
		l := some(r, 3, 20)
		common, a, b := l[1], l[2], l[3]
		checkPair(t, common.Times(a), common.Times(b))
	}
}

// TestGcdOfNeighbours has the longest run of Euclid, and numbers whose highest bits are the same.
func TestGcdOfNeighbours(t *testing.T) {
	one := Read("1")
	a, b := one, one
	for range 3000 {
		a, b = b, a.Plus(b)
		check(t, "Fibonacci", b.Gcd(a), big.NewInt(1))
	}
	three := Read("3")
	for range 60 {
		check(t, "neighbours", b.Gcd(b.Minus(one)), big.NewInt(1))
		check(t, "multiples", b.Times(three).Gcd(b), reference(b))
		b, _ = b.Divide(Read("123456789012"))
		b = b.Plus(one)
	}
}

func TestText(t *testing.T) {
	r := rand.New(rand.NewSource(3))
	list := append(some(r, 500, 60), awkward(3)...)
	for digits := range 60 {
		list = append(list, Read("1"+strings.Repeat("0", digits)), Read("-"+strings.Repeat("9", digits)))
		list = append(list, Make(1<<digits-1), Make(1<<digits), Make(-1<<digits))
	}
	for _, a := range list {
		want := reference(a)
		digits := strings.TrimPrefix(want.String(), "-")
		if a.Digits() != digits {
			t.Fatalf("digits of %v: %v", want, a.Digits())
		}
		check(t, "read", Read(digits), new(big.Int).Abs(want))
		check(t, "read behind -", Read("-"+digits), new(big.Int).Neg(new(big.Int).Abs(want)))
		if a.Sign() != want.Sign() {
			t.Fatalf("sign of %v: %v", want, a.Sign())
		}
	}
}

func TestOtherTextsDoNoHarm(t *testing.T) {
	for _, text := range []string{"", "-", "--1", "x", "12 34", "-0", "000", "1\x00", "1234567890123456789x", "\xff\xfe"} {
		_ = Read(text).Digits()
	}
	check(t, "no digits", Read(""), new(big.Int))
	check(t, "no negative zero", Read("-0"), new(big.Int))
	check(t, "zeros in front", Read("-"+strings.Repeat("0", 30)+"7"), big.NewInt(-7))
}
