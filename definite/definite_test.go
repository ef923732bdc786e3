package definite_test

import (
	"fmt"
	"math/big"
	"math/rand"
	"slices"
	"strings"
	"testing"

	"joinlearn/api"
	"joinlearn/definite"
	"joinlearn/matrix"
	"joinlearn/rational"
)

// nines is the greatest number, eights the one before it.
var (
	nines  = api.Rat(strings.Repeat("9", api.MaxDigits))
	eights = nines[1:] + "8"
)

// same compares a result with what is expected. nil and empty slices are the same.
func same(t *testing.T, name string, got, want any) {
	t.Helper()
	if g, w := fmt.Sprintf("%q", got), fmt.Sprintf("%q", want); g != w {
		t.Errorf("%s: %v, not %v", name, got, want)
	}
}

// sameResult compares a result and an error with what is expected.
func sameResult(t *testing.T, name string, got any, e api.Errno, want any, wantError api.Errno) {
	t.Helper()
	same(t, name, got, want)
	if e != wantError {
		t.Errorf("error of %s: %v, not %v", name, e, wantError)
	}
}

// list reads a list of numbers.
func list(text string) []api.Rat {
	var l []api.Rat
	for number := range strings.FieldsSeq(text) {
		l = append(l, api.Rat(number))
	}
	return l
}

// read reads a matrix whose rows end with commas: "," is a row without cells.
func read(text string) api.Matrix {
	var a api.Matrix
	for _, row := range strings.SplitAfter(text, ",") {
		if row != "" {
			a = append(a, list(strings.TrimSuffix(row, ",")))
		}
	}
	return a
}

// power returns a number of n digits.
func power(n int) api.Rat {
	return api.Rat("1" + strings.Repeat("0", n-1))
}

// diagonal returns a matrix with these numbers on its diagonal.
func diagonal(l ...api.Rat) api.Matrix {
	a := make(api.Matrix, len(l))
	for i := range a {
		a[i] = slices.Repeat([]api.Rat{"0"}, len(l))
		a[i][i] = l[i]
	}
	return a
}

// number returns the number of a text.
func number(a api.Rat) *big.Rat {
	n, ok := new(big.Rat).SetString(string(a))
	if !ok {
		panic("no number: " + a)
	}
	return n
}

// text returns the text of a number.
func text(n *big.Rat) api.Rat {
	return api.Rat(n.RatString())
}

// numbers returns a list of pseudo-random short fractions. With few different ones, many matrices are not positive.
func numbers(r *rand.Rand, n, different int) []api.Rat {
	l := make([]api.Rat, n)
	for i := range l {
		l[i] = text(big.NewRat(int64(r.Intn(different)-different/2), int64(1+r.Intn(different))))
	}
	return l
}

// symmetric returns a pseudo-random symmetric matrix: its diagonal is increased by that number.
func symmetric(r *rand.Rand, n, different int, more api.Rat) api.Matrix {
	a := make(api.Matrix, n)
	for i := range a {
		a[i] = numbers(r, n, different)
		for j := range i {
			a[i][j] = a[j][i]
		}
		a[i][i], _ = rational.Add(a[i][i], more)
	}
	return a
}

// square returns b' b for a pseudo-random b: no form of it is less than 0, and it is positive if the columns of b are independent.
func square(r *rand.Rand, rows, cols, different int) api.Matrix {
	b := make(api.Matrix, rows)
	for i := range b {
		b[i] = numbers(r, cols, different)
	}
	turned, _ := matrix.Transpose(b)
	a, _ := matrix.Mul(turned, b)
	return a
}

// samples are symmetric matrices of all sizes, positive and not.
func samples() []api.Matrix {
	r := rand.New(rand.NewSource(4))
	all := []api.Matrix{
		nil, read("1,"), read("1/7,"), read("0,"), read("-1,"), read("2 1,1 2,"), read("1 2,2 1,"), read("1 1,1 1,"), read("0 1,1 0,"), read("0 0,0 1,"), read("1 0,0 0,"),
		read("1 1 0,1 1 1,0 1 9,"), read("1 0 0,0 -1 0,0 0 5,"), read("4 2 2,2 1 1,2 1 1,"), diagonal("1", "1/2", "3", "0", "-1"), diagonal("-1", "-1"), diagonal("-1", "-1", "-1"),
		symmetric(r, 12, 9, "20"), symmetric(r, 12, 9, "0"), square(r, 12, 12, 5), square(r, 11, 12, 5),
	}
	for n := 1; n < 7; n++ {
		for range 40 {
			all = append(all, symmetric(r, n, 5, "0"), symmetric(r, n, 5, "2"), square(r, n, n, 5), square(r, max(n-1, 1), n, 5))
		}
	}
	return all
}

// textbook decomposes as it is taught, with fractions, up to the greatest leading part that is positive: the rows of it are as many as d has elements.
func textbook(a api.Matrix) (l [][]*big.Rat, d []*big.Rat) {
	for i := range a {
		l = append(l, make([]*big.Rat, len(a)))
		for j := range a {
			l[i][j] = new(big.Rat)
		}
	}
	for j := range a {
		for i := j; i < len(a); i++ {
			l[i][j] = number(a[i][j])
			for k := range j {
				product := new(big.Rat).Mul(l[i][k], l[j][k])
				l[i][j].Sub(l[i][j], product.Mul(product, d[k]))
			}
		}
		if l[j][j].Sign() <= 0 {
			return l, d
		}
		pivot := new(big.Rat).Set(l[j][j])
		d = append(d, pivot)
		for i := j; i < len(a); i++ {
			l[i][j].Quo(l[i][j], pivot)
		}
	}
	return l, d
}

// badMatrices are arguments that have an error of matrix.Shape, each with all errors behind it.
func badMatrices() map[api.Errno]api.Matrix {
	return map[api.Errno]api.Matrix{
		api.ErrLimit:  slices.Repeat(api.Matrix{slices.Repeat([]api.Rat{"x"}, 13), nil}, 7),
		api.ErrShape:  read("x x,x,"),
		api.ErrNumber: read("1 2,x 4/2,"),
	}
}

// P4.1

func TestSymmetric(t *testing.T) {
	for _, a := range samples() {
		same(t, "Symmetric", definite.Symmetric(a), true)
		for i := range a {
			for j := range a {
				if i != j {
					before := a[i][j]
					a[i][j], _ = rational.Add(before, "1/1000")
					same(t, "Symmetric, one cell changed", definite.Symmetric(a), false)
					a[i][j] = before
				}
			}
		}
	}
	for _, a := range []api.Matrix{api.Matrix{}, read("1 2,2 3,"), diagonal(nines, "1/"+nines), {{"0", nines}, {nines, "0"}}} {
		same(t, "Symmetric", definite.Symmetric(a), true)
	}
	for _, a := range []api.Matrix{
		read(","), read(",,"), read("1 2,"), read("1,1,"), read("1 2,3 4,"), read("1 1 1,1 1 1,"), read("1 2,2,"), read("1 2,2 x,"), read("1/1,"), read("1 -0,0 1,"),
		read("x,"), diagonal(slices.Repeat([]api.Rat{"1"}, 13)...), {{nines + "0"}},
	} {
		same(t, "Symmetric", definite.Symmetric(a), false)
	}
	for _, a := range badMatrices() {
		same(t, "Symmetric", definite.Symmetric(a), false)
	}
}

func TestForm(t *testing.T) {
	for _, x := range []struct {
		a    api.Matrix
		x    []api.Rat
		want api.Rat
		e    api.Errno
	}{
		{nil, nil, "0", api.OK},
		{read("2 1,1 2,"), list("1 1"), "6", api.OK},
		{read("1 2,2 1,"), list("-2 1"), "-3", api.OK},
		{read("1 2,3 4,"), list("1/2 -1"), "7/4", api.OK}, // it need not be symmetric
		{read("0 1,0 0,"), list("2 3"), "6", api.OK},
		{read("0 0,1 0,"), list("2 3"), "6", api.OK},
		{diagonal(nines, "-"+nines), []api.Rat{nines, nines}, "0", api.OK}, // only the result has to fit
		{diagonal(nines), list("1"), nines, api.OK},
		{diagonal("1/" + nines), list("-1"), "1/" + nines, api.OK},
		{read(","), nil, "", api.ErrShape},
		{read("1 2,"), list("1"), "", api.ErrShape},
		{read("1 2,"), list("x 1"), "", api.ErrShape},
		{read("1,2,"), list("x"), "", api.ErrShape},
		{read("1,2,"), list("1 x"), "", api.ErrShape},
		{nil, list("x"), "", api.ErrShape},
		{diagonal(nines, nines), []api.Rat{"x"}, "", api.ErrShape},
		{diagonal(nines, nines), []api.Rat{nines, "x", nines}, "", api.ErrShape},
		{diagonal(nines, nines), nil, "", api.ErrShape},
		{diagonal(nines, nines), make([]api.Rat, 13), "", api.ErrShape},
		{diagonal(nines, nines), []api.Rat{nines, "2/4"}, "", api.ErrNumber},
		{diagonal(nines, nines), []api.Rat{"", nines}, "", api.ErrNumber},
		{diagonal("0"), list("00"), "", api.ErrNumber},
		{diagonal(nines, "1"), list("1 1"), "", api.ErrLimit},
		{diagonal("1/" + nines), list("1/2"), "", api.ErrLimit},
	} {
		got, e := definite.Form(x.a, x.x)
		sameResult(t, fmt.Sprintf("Form of %v", x.a), got, e, x.want, x.e)
	}
	for want, a := range badMatrices() {
		got, e := definite.Form(a, list("x"))
		sameResult(t, "Form of no matrix", got, e, api.Rat(""), want)
	}
}

func TestFormOfRandomMatrices(t *testing.T) {
	r := rand.New(rand.NewSource(41))
	for range 300 {
		n := 1 + r.Intn(6)
		a, x := make(api.Matrix, n), numbers(r, n, 9)
		want := new(big.Rat)
		for i := range a {
			a[i] = numbers(r, n, 9)
			for j := range a[i] {
				product := new(big.Rat).Mul(number(x[i]), number(x[j]))
				want.Add(want, product.Mul(product, number(a[i][j])))
			}
		}
		got, e := definite.Form(a, x)
		sameResult(t, "Form", got, e, text(want), api.OK)
	}
}

// P4.3

func TestPositive(t *testing.T) {
	for _, a := range samples() {
		_, d := textbook(a)
		got, e := definite.Positive(a)
		sameResult(t, fmt.Sprintf("Positive of %v", a), got, e, len(d) == len(a), api.OK)
	}
	_, e := definite.Positive(api.Matrix{{nines}}) // 400 digits are not heavy for one row
	same(t, "one long cell", e == api.OK, true)
}

// TestPositiveForms holds Positive against its definition, for all short vectors.
func TestPositiveForms(t *testing.T) {
	r := rand.New(rand.NewSource(43))
	for range 150 {
		a := symmetric(r, 3, 4, "1")
		positive, _ := definite.Positive(a)
		least := big.NewRat(1, 1)
		for i := range 7 * 7 * 7 {
			x := []api.Rat{rational.Whole(i%7 - 3), rational.Whole(i/7%7 - 3), rational.Whole(i/49 - 3)}
			form, _ := definite.Form(a, x)
			if n := number(form); n.Cmp(least) < 0 && !slices.Equal(x, list("0 0 0")) {
				least = n
			}
		}
		if positive && least.Sign() <= 0 {
			t.Errorf("%v is positive with the form %v", a, least)
		}
	}
}

func TestWitness(t *testing.T) {
	for _, x := range []struct {
		a    api.Matrix
		want []api.Rat
		e    api.Errno
	}{
		{nil, nil, api.ErrNone},
		{read("1/9,"), nil, api.ErrNone},
		{read("2 1,1 2,"), nil, api.ErrNone},
		{read("1 2,2 1,"), list("-2 1"), api.OK},
		{read("0,"), list("1"), api.OK},
		{read("-5,"), list("1"), api.OK},
		{read("0 0,0 0,"), list("1 0"), api.OK},
		{read("0 1,1 0,"), list("1 0"), api.OK},
		{read("-1 0,0 -1,"), list("1 0"), api.OK}, // although its determinant is greater than 0
		{read("3 0,0 0,"), list("0 1"), api.OK},
		{read("1 1,1 1,"), list("-1 1"), api.OK},
		{read("1 0 0,0 -1 0,0 0 5,"), list("0 1 0"), api.OK},
		{read("1 0 7,0 -1 7,7 7 -5,"), list("0 1 0"), api.OK},
		{read("2 1 1,1 2 1,1 1 1/3,"), list("-1/3 -1/3 1"), api.OK},
		{diagonal(slices.Repeat([]api.Rat{"1", "0"}, 6)...), list("0 1 0 0 0 0 0 0 0 0 0 0"), api.OK},
	} {
		got, e := definite.Witness(x.a)
		sameResult(t, fmt.Sprintf("Witness of %v", x.a), got, e, x.want, x.e)
	}
	for _, a := range samples() {
		checkWitness(t, a)
	}
}

// checkWitness holds what Witness returns against its definition.
func checkWitness(t *testing.T, a api.Matrix) {
	t.Helper()
	got, e := definite.Witness(a)
	_, d := textbook(a)
	k := len(d)
	if k == len(a) {
		sameResult(t, "Witness of a positive matrix", got, e, []api.Rat(nil), api.ErrNone)
		return
	}
	if e != api.OK || len(got) != len(a) {
		t.Fatalf("Witness of %v: %v %v", a, got, e)
	}
	zeros := slices.Repeat([]api.Rat{"0"}, len(a))
	same(t, "Witness from its index on", got[k:], append(list("1"), zeros[k+1:]...))
	image, _ := matrix.Apply(a, got)
	same(t, "the image before the index", image[:k], zeros[:k])
	form, _ := definite.Form(a, got)
	same(t, "Form of a witness is greater than 0", rational.Sign(form) > 0, false)
}

// TestErrorsOfSymmetricMatrices goes through the errors in their order: each matrix has all errors behind its own as well, as far as they go together.
func TestErrorsOfSymmetricMatrices(t *testing.T) {
	light, long := power(300), power(301) // 2 rows of 301 digits are heavy
	for _, x := range []struct {
		name                         string
		a                            api.Matrix
		decompose, positive, witness api.Errno
	}{
		{"rows without cells", read(",,"), api.ErrShape, api.ErrShape, api.ErrShape},
		{"not square", api.Matrix{{"-" + long, long}}, api.ErrShape, api.ErrShape, api.ErrShape},
		{"not symmetric", api.Matrix{{"-" + long, "1"}, {"2", long}}, api.ErrShape, api.ErrShape, api.ErrShape},
		{"heavy", diagonal("-"+long, "1"), api.ErrLimit, api.ErrLimit, api.ErrLimit},
		{"heavy by its denominator", diagonal("1/"+long, "1"), api.ErrLimit, api.ErrLimit, api.ErrLimit},
		{"heavy by both", diagonal("-"+light, "1/11"), api.ErrLimit, api.ErrLimit, api.ErrLimit},
		{"heavy and positive", diagonal(long, long), api.ErrLimit, api.ErrLimit, api.ErrLimit},
		{"12 heavy rows", diagonal(slices.Repeat([]api.Rat{power(51)}, 12)...), api.ErrLimit, api.ErrLimit, api.ErrLimit},
		{"12 rows", diagonal(slices.Repeat([]api.Rat{power(50)}, 12)...), api.OK, api.OK, api.ErrNone},
		{"not positive", diagonal("-"+light, light), api.ErrSingular, api.OK, api.OK},
		{"not positive at its end", diagonal(light, "-"+light), api.ErrSingular, api.OK, api.OK},
		{"form 0", read("1 1,1 1,"), api.ErrSingular, api.OK, api.OK},
		{"positive", diagonal(light, light), api.OK, api.OK, api.ErrNone},
		{"positive, long factors", longFactors(power(150)), api.ErrLimit, api.OK, api.ErrNone},
		{"not positive, long witness", longFactors("0"), api.ErrSingular, api.OK, api.ErrLimit},
	} {
		checkErrors(t, x.name, x.a, x.decompose, x.positive, x.witness)
	}
	for want, a := range badMatrices() {
		checkErrors(t, "no matrix", a, want, want, want)
	}
}

// longFactors returns a matrix of 4 rows that are not heavy, with the given last cell: its factors and its witness have up to 450 digits.
func longFactors(last api.Rat) api.Matrix {
	x := power(150)
	return api.Matrix{{x, "1", "2", "3"}, {"1", x, "5", "7"}, {"2", "5", x, "11"}, {"3", "7", "11", last}}
}

// checkErrors compares the errors of three functions, and demands that there is no result beside them.
func checkErrors(t *testing.T, name string, a api.Matrix, decompose, positive, witness api.Errno) {
	t.Helper()
	f, e := definite.Decompose(a)
	same(t, "error of Decompose, "+name, int(e), int(decompose))
	same(t, "factors, "+name, len(f.L) == 0 && len(f.D) == 0, e != api.OK)
	ok, e := definite.Positive(a)
	same(t, "error of Positive, "+name, int(e), int(positive))
	same(t, "positive, "+name, ok && e != api.OK, false)
	x, e := definite.Witness(a)
	same(t, "error of Witness, "+name, int(e), int(witness))
	same(t, "witness, "+name, len(x) == 0, e != api.OK)
}

// R2

// TestArguments holds that no function writes into its arguments, and that nobody who writes into a result changes them or the rest of it.
func TestArguments(t *testing.T) {
	a, bad, x := read("2 1,1 2,"), read("1 2,2 1,"), list("3 5")
	f, _ := definite.Decompose(a)
	solved, _ := definite.Solve(f, x)
	witness, _ := definite.Witness(bad)
	definite.Positive(a)
	definite.Form(a, x)
	same(t, "Check", definite.Check(a, f), true)
	same(t, "factors", f, api.Factors{L: read("1 0,1/2 1,"), D: list("2 3/2")})
	solved[0], witness[0], f.D[0] = "x", "x", "x"
	for i := range f.L {
		_ = append(f.L[i], "y")
		f.L[i][i] = "x"
	}
	same(t, "L, written into", f.L, read("x 0,1/2 x,"))
	same(t, "D, written into", f.D, list("x 3/2"))
	same(t, "positive argument", a, read("2 1,1 2,"))
	same(t, "other argument", bad, read("1 2,2 1,"))
	same(t, "list", x, list("3 5"))
}
