package definite_test

import (
	"fmt"
	"math/big"
	"math/rand"
	"slices"
	"testing"

	"joinlearn/api"
	"joinlearn/definite"
	"joinlearn/matrix"
	"joinlearn/rational"
)

// ones returns the identity.
func ones(n int) api.Matrix {
	return diagonal(slices.Repeat([]api.Rat{"1"}, n)...)
}

// factors writes what textbook returns.
func factors(l [][]*big.Rat, d []*big.Rat) api.Factors {
	f := api.Factors{L: ones(len(l))}
	for i := range l {
		for j := range i {
			f.L[i][j] = text(l[i][j])
		}
		f.D = append(f.D, text(d[i]))
	}
	return f
}

// P4.2

func TestDecompose(t *testing.T) {
	for _, x := range []struct {
		a    api.Matrix
		want api.Factors
	}{
		{nil, api.Factors{}},
		{read("7,"), api.Factors{L: read("1,"), D: list("7")}},
		{read("2 1,1 2,"), api.Factors{L: read("1 0,1/2 1,"), D: list("2 3/2")}},
		{read("1/2 1/3,1/3 1/4,"), api.Factors{L: read("1 0,2/3 1,"), D: list("1/2 1/36")}},
		{read("4 2 -2,2 5 1,-2 1 6,"), api.Factors{L: read("1 0 0,1/2 1 0,-1/2 1/2 1,"), D: list("4 4 4")}},
		{diagonal("3", "1/5", "2"), api.Factors{L: ones(3), D: list("3 1/5 2")}},
	} {
		got, e := definite.Decompose(x.a)
		sameResult(t, fmt.Sprintf("Decompose of %v", x.a), got, e, x.want, api.OK)
	}
	for _, a := range samples() {
		got, e := definite.Decompose(a)
		l, d := textbook(a)
		if len(d) < len(a) {
			sameResult(t, fmt.Sprintf("Decompose of %v", a), got, e, api.Factors{}, api.ErrSingular)
			continue
		}
		sameResult(t, fmt.Sprintf("Decompose of %v", a), got, e, factors(l, d), api.OK)
		same(t, "Check of Decompose", definite.Check(a, got), true)
	}
}

// TestDecomposeAtTheLimit has factors of 400 digits, and of one more.
func TestDecomposeAtTheLimit(t *testing.T) {
	f, e := definite.Decompose(api.Matrix{{nines}})
	sameResult(t, "Decompose", f, e, api.Factors{L: ones(1), D: []api.Rat{nines}}, api.OK)
	low, high := power(200), power(202) // their product, less 1, is nines
	f, e = definite.Decompose(api.Matrix{{low, "1"}, {"1", high}})
	sameResult(t, "Decompose, just fits", f, e, api.Factors{L: api.Matrix{{"1", "0"}, {"1/" + low, "1"}}, D: []api.Rat{low, nines + "/" + low}}, api.OK)
	f, e = definite.Decompose(api.Matrix{{low, "1"}, {"1", high + "0"}})
	sameResult(t, "Decompose, does not fit", f, e, api.Factors{}, api.ErrLimit)
}

func TestCheck(t *testing.T) {
	a := read("4 2 -2,2 5 1,-2 1 6,")
	l, d := read("1 0 0,1/2 1 0,-1/2 1/2 1,"), list("4 4 4")
	same(t, "Check", definite.Check(a, api.Factors{L: l, D: d}), true)
	same(t, "Check of nothing", definite.Check(nil, api.Factors{}), true)
	for _, x := range []struct {
		name string
		a    api.Matrix
		f    api.Factors
	}{
		{"another matrix", read("4 2 -2,2 5 1,-2 1 7,"), api.Factors{L: l, D: d}},
		{"no matrix", read("4 2 -2,2 5 1,-2 1 x,"), api.Factors{L: l, D: d}},
		{"not symmetric below", read("4 2 -2,2 5 1,-2 2 6,"), api.Factors{L: l, D: d}},
		{"not symmetric above", read("4 2 -2,2 5 2,-2 1 6,"), api.Factors{L: l, D: d}},
		{"a smaller matrix", read("4 2,2 5,"), api.Factors{L: l, D: d}},
		{"a greater matrix", a, api.Factors{L: read("1 0,1/2 1,"), D: list("4 4")}},
		{"no rows", nil, api.Factors{L: l, D: d}},
		{"no rows but L", nil, api.Factors{L: read("1,")}},
		{"no rows but D", nil, api.Factors{D: list("1")}},
		{"no factors", a, api.Factors{}},
		{"rows without cells", read(","), api.Factors{L: read(",")}},
		{"L without cells", nil, api.Factors{L: read(",")}},
		{"no number in L", a, api.Factors{L: read("1 0 0,2/4 1 0,-1/2 1/2 1,"), D: d}},
		{"no number above the diagonal", read("1,"), api.Factors{L: read("01,"), D: list("1")}},
		{"rows of L of different lengths", a, api.Factors{L: read("1,1/2 1,-1/2 1/2 1,"), D: d}},
		{"too many columns of L", a, api.Factors{L: read("1 0 0 0,1/2 1 0 0,-1/2 1/2 1 0,"), D: d}},
		{"too few columns of L", a, api.Factors{L: read("1 0,1/2 1,-1/2 1/2,"), D: d}},
		{"D too short", a, api.Factors{L: l, D: list("4 4")}},
		{"D too long", a, api.Factors{L: l, D: list("4 4 4 4")}},
		{"no number in D", a, api.Factors{L: l, D: list("4 4 4/1")}},
		{"nothing in D", a, api.Factors{L: l, D: []api.Rat{"4", "", "4"}}},
		{"2 on the diagonal", read("4,"), api.Factors{L: read("2,"), D: list("1")}},
		{"-1 on the diagonal", read("4 2,2 5,"), api.Factors{L: read("1 0,1/2 -1,"), D: list("4 4")}},
		{"not 0 above the diagonal", read("2 1,1 1,"), api.Factors{L: read("1 1,0 1,"), D: list("1 1")}},
		{"0 in D", read("1 1,1 1,"), api.Factors{L: read("1 0,1 1,"), D: list("1 0")}},
		{"less than 0 in D", read("1 2,2 1,"), api.Factors{L: read("1 0,2 1,"), D: list("1 -3")}},
		{"13 rows", ones(13), api.Factors{L: ones(13), D: slices.Repeat([]api.Rat{"1"}, 13)}},
	} {
		same(t, "Check, "+x.name, definite.Check(x.a, x.f), false)
	}
	for _, bad := range badMatrices() {
		same(t, "Check of no matrix", definite.Check(bad, api.Factors{L: bad, D: bad[0]}), false)
		same(t, "Check with no matrix", definite.Check(a, api.Factors{L: bad, D: d}), false)
	}
}

// TestCheckChanged changes each number of what proves that a matrix is positive.
func TestCheckChanged(t *testing.T) {
	r := rand.New(rand.NewSource(42))
	for n := 1; n <= 6; n++ {
		a := symmetric(r, n, 9, "20")
		f, e := definite.Decompose(a)
		sameResult(t, "Check", definite.Check(a, f), e, true, api.OK)
		change := func(cell *api.Rat) {
			before := *cell
			*cell, _ = rational.Add(before, "1/7")
			same(t, "Check, changed", definite.Check(a, f), false)
			*cell = before
		}
		for i := range n {
			change(&f.D[i])
			for j := range n {
				change(&f.L[i][j])
				if i == j {
					change(&a[i][i])
				}
			}
		}
		same(t, "Check, as before", definite.Check(a, f), true)
	}
}

// TestCheckOfLongNumbers has factors whose products have more digits than a number may have, although their sum has not.
func TestCheckOfLongNumbers(t *testing.T) {
	f := api.Factors{L: api.Matrix{{"1", "0"}, {eights, "1"}}, D: []api.Rat{"1/" + eights, "1"}}
	same(t, "Check, long in between", definite.Check(api.Matrix{{"1/" + eights, "1"}, {"1", nines}}, f), true)
	same(t, "Check, long in between", definite.Check(api.Matrix{{"1/" + eights, "1"}, {"1", eights}}, f), false)

	// Powers of different primes have no common divisor. The sum 1 / (u v w) + c / (u v) has the denominator w, if u v divides 1 + c w.
	u, v, w := primePower(3, 380), primePower(7, 220), primePower(11, 170)
	both := new(big.Int).Mul(u, v)
	c := new(big.Int).ModInverse(w, both)
	c.Sub(both, c)
	long := new(big.Rat).SetFrac(big.NewInt(1), new(big.Int).Mul(both, w))
	rest := new(big.Rat).SetFrac(c, both)
	first := new(big.Rat).SetFrac(u, new(big.Int).Mul(v, w)) // times (1/u)^2 it is long
	f = api.Factors{L: api.Matrix{{"1", "0"}, {text(new(big.Rat).SetFrac(big.NewInt(1), u)), "1"}}, D: []api.Rat{text(first), text(rest)}}
	side := text(new(big.Rat).SetFrac(big.NewInt(1), new(big.Int).Mul(v, w)))
	a := api.Matrix{{text(first), side}, {side, text(new(big.Rat).Add(long, rest))}}
	same(t, "digits in between", len(long.Denom().String()) > api.MaxDigits, true)
	same(t, "Check, long denominators in between", definite.Check(a, f), true)
	a[1][1], _ = rational.Add(a[1][1], "1")
	same(t, "Check, long denominators in between", definite.Check(a, f), false)
}

func primePower(prime, exponent int64) *big.Int {
	return new(big.Int).Exp(big.NewInt(prime), big.NewInt(exponent), nil)
}

// P4.4

func TestSolve(t *testing.T) {
	for _, x := range []struct {
		f       api.Factors
		b, want []api.Rat
	}{
		{api.Factors{}, nil, nil},
		{api.Factors{L: read("1,"), D: list("-2/3")}, list("4"), list("-6")},
		{api.Factors{L: read("1 0,1/2 1,"), D: list("2 3/2")}, list("1 0"), list("2/3 -1/3")},
		{api.Factors{L: read("1 0,1/2 1,"), D: list("2 3/2")}, list("0 1"), list("-1/3 2/3")},
		{api.Factors{L: read("1 0,2 1,"), D: list("1 -3")}, list("5 4"), list("1 2")}, // it need not be positive
		{api.Factors{L: ones(3), D: list("1 2 4")}, list("1 1 1"), list("1 1/2 1/4")},
		{api.Factors{L: ones(1), D: []api.Rat{"1/" + nines}}, list("1"), []api.Rat{nines}},
		{api.Factors{L: ones(1), D: []api.Rat{nines + "/" + eights}}, []api.Rat{nines + "/" + eights}, list("1")},
	} {
		got, e := definite.Solve(x.f, x.b)
		sameResult(t, fmt.Sprintf("Solve of %v and %v", x.f, x.b), got, e, x.want, api.OK)
	}
}

// TestSolveOfProducts holds Solve against matrix.Solve of the product.
func TestSolveOfProducts(t *testing.T) {
	r := rand.New(rand.NewSource(44))
	for i := range 300 {
		n := 1 + i%7
		if i == 0 {
			n = api.MaxMatrix
		}
		f := api.Factors{L: ones(n), D: make([]api.Rat, n)}
		for i := range n {
			copy(f.L[i], numbers(r, i, 7))
			f.D[i] = text(big.NewRat([]int64{-3, -1, 1, 2, 5}[r.Intn(5)], 1+r.Int63n(5)))
		}
		turned, _ := matrix.Transpose(f.L)
		left, _ := matrix.Mul(f.L, diagonal(f.D...))
		a, _ := matrix.Mul(left, turned)
		b := numbers(r, n, 9)
		want, e := matrix.Solve(a, b)
		if e != api.OK {
			t.Fatalf("matrix.Solve of %v: %v", a, e)
		}
		got, e := definite.Solve(f, b)
		sameResult(t, fmt.Sprintf("Solve of %v and %v", f, b), got, e, want, api.OK)
	}
}

func TestSolveOfDecompose(t *testing.T) {
	r := rand.New(rand.NewSource(45))
	for _, a := range samples() {
		f, e := definite.Decompose(a)
		if e == api.OK && len(a) < api.MaxMatrix { // the factors of so many rows are heavy
			b := numbers(r, len(a), 9)
			x, e := definite.Solve(f, b)
			back, _ := matrix.Apply(a, x)
			sameResult(t, "Apply of Solve", back, e, b, api.OK)
		}
	}
}

// TestErrorsOfSolve goes through the errors in their order: each case has all errors behind its own as well, as far as they go together.
func TestErrorsOfSolve(t *testing.T) {
	light, long := power(300), power(301) // 2 rows of 301 digits are heavy
	for want, bad := range badMatrices() {
		got, e := definite.Solve(api.Factors{L: bad, D: list("x")}, list("x x x"))
		sameResult(t, "Solve with no matrix", got, e, []api.Rat(nil), want)
	}
	for _, x := range []struct {
		name string
		f    api.Factors
		b    []api.Rat
		want api.Errno
	}{
		{"rows without cells", api.Factors{L: read(","), D: list("x")}, list("x"), api.ErrShape},
		{"rows without cells", api.Factors{L: read(",")}, nil, api.ErrShape},
		{"too many columns", api.Factors{L: read("2 2,"), D: list("x")}, list("x"), api.ErrShape},
		{"too few columns", api.Factors{L: read("2,2,"), D: list("x x")}, list("x x"), api.ErrShape},
		{"D too short", api.Factors{L: read("2 2,2 2,"), D: list("x")}, list("x x"), api.ErrShape},
		{"D too long", api.Factors{L: read("2 2,2 2,"), D: list("x x x")}, list("x x"), api.ErrShape},
		{"b too short", api.Factors{L: read("2 2,2 2,"), D: list("x x")}, list("x"), api.ErrShape},
		{"b too long", api.Factors{L: read("2 2,2 2,"), D: list("x x")}, list("x x x"), api.ErrShape},
		{"13 elements of D", api.Factors{L: read("2 2,2 2,"), D: make([]api.Rat, 13)}, list("x x"), api.ErrShape},
		{"13 elements of b", api.Factors{L: read("2 2,2 2,"), D: list("x x")}, make([]api.Rat, 13), api.ErrShape},
		{"no rows but D", api.Factors{D: list("1")}, nil, api.ErrShape},
		{"no rows but b", api.Factors{}, list("1"), api.ErrShape},
		{"no number in D", api.Factors{L: api.Matrix{{long, "2"}, {"2", "2"}}, D: list("0 0/1")}, []api.Rat{long, "0"}, api.ErrNumber},
		{"no number in b", api.Factors{L: api.Matrix{{long, "2"}, {"2", "2"}}, D: list("0 0")}, []api.Rat{long, "+1"}, api.ErrNumber},
		{"L is heavy", api.Factors{L: api.Matrix{{"2", "2"}, {long, "2"}}, D: list("0 0")}, list("1 1"), api.ErrLimit},
		{"L is heavy by its denominators", api.Factors{L: api.Matrix{{"1", "0"}, {"1/" + long, "1"}}, D: list("0 0")}, list("1 1"), api.ErrLimit},
		{"D is heavy", api.Factors{L: read("2 2,2 2,"), D: []api.Rat{"0", "-" + long}}, list("1 1"), api.ErrLimit},
		{"D is heavy by its denominators", api.Factors{L: read("2 2,2 2,"), D: []api.Rat{light, "1/11"}}, list("1 1"), api.ErrLimit},
		{"b is heavy", api.Factors{L: read("2 2,2 2,"), D: list("0 0")}, []api.Rat{"0", long}, api.ErrLimit},
		{"b is heavy by its denominators", api.Factors{L: read("2 2,2 2,"), D: list("0 0")}, []api.Rat{"1/" + light, light}, api.ErrLimit},
		{"not 1 on the diagonal", api.Factors{L: read("1 0,0 2,"), D: []api.Rat{light, light}}, []api.Rat{"1", "1/" + light}, api.ErrSingular},
		{"0 on the diagonal", api.Factors{L: read("0 0,0 1,"), D: list("1 1")}, list("1 1"), api.ErrSingular},
		{"not 0 above the diagonal", api.Factors{L: read("1 1,0 1,"), D: list("1 1")}, list("1 1"), api.ErrSingular},
		{"0 in D", api.Factors{L: read("1 0,1 1,"), D: list("1 0")}, list("0 0"), api.ErrSingular},
		{"too long", api.Factors{L: ones(1), D: []api.Rat{"1/" + nines}}, list("2"), api.ErrLimit},
		{"too long below", api.Factors{L: ones(2), D: []api.Rat{"1", light}}, []api.Rat{"0", "1/" + power(102)}, api.ErrLimit},
	} {
		got, e := definite.Solve(x.f, x.b)
		sameResult(t, "Solve, "+x.name, got, e, []api.Rat(nil), x.want)
	}
	got, e := definite.Solve(api.Factors{L: ones(2), D: []api.Rat{"1", light}}, []api.Rat{"0", "1/" + power(101)})
	sameResult(t, "Solve, just not too long", got, e, []api.Rat{"0", "1/" + power(400)}, api.OK)
}
