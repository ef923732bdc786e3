package matrix_test

import (
	"math/big"
	"math/rand"
	"reflect"
	"strings"
	"testing"

	"joinlearn/api"
	"joinlearn/matrix"
	"joinlearn/rational"
)

// nines is the greatest number; it has no common divisor with eights.
var (
	nines  = api.Rat(strings.Repeat("9", api.MaxDigits))
	eights = nines[1:] + "8"
)

// same compares a result with what is expected. nil and empty slices are the same.
func same(t *testing.T, name string, got, want any) {
	t.Helper()
	if !reflect.DeepEqual(plain(got), plain(want)) {
		t.Errorf("%s: %v, not %v", name, got, want)
	}
}

// plain gives empty slices one form, and counts rows even if they are empty.
func plain(x any) any {
	switch x := x.(type) {
	case api.Matrix:
		rows := []any{}
		for _, row := range x {
			rows = append(rows, plain(row))
		}
		return rows
	case []api.Rat:
		return append([]api.Rat{}, x...)
	}
	return x
}

// sameResult compares a result and an error with what is expected.
func sameResult(t *testing.T, name string, got any, e api.Errno, want any, wantError api.Errno) {
	t.Helper()
	same(t, name, got, want)
	same(t, "error of "+name, e, wantError)
}

// list reads a list of numbers.
func list(text string) []api.Rat {
	var l []api.Rat
	for _, field := range strings.Fields(text) {
		l = append(l, api.Rat(field))
	}
	return l
}

// read reads a matrix whose rows end with commas: "," is a row without cells.
func read(text string) api.Matrix {
	var a api.Matrix
	for text != "" {
		var row string
		row, text, _ = strings.Cut(text, ",")
		a = append(a, list(row))
	}
	return a
}

// filled returns a matrix with the same number everywhere.
func filled(rows, cols int, cell api.Rat) api.Matrix {
	a := make(api.Matrix, rows)
	for i := range a {
		for range cols {
			a[i] = append(a[i], cell)
		}
	}
	return a
}

// power returns a number of n digits.
func power(n int) api.Rat {
	return api.Rat("1" + strings.Repeat("0", n-1))
}

// random returns a matrix of short fractions; with few different ones many matrices are singular.
func random(r *rand.Rand, rows, cols, different int) api.Matrix {
	a := make(api.Matrix, rows)
	for i := range a {
		a[i] = randomList(r, cols, different)
	}
	return a
}

func randomList(r *rand.Rand, n, different int) []api.Rat {
	l := make([]api.Rat, n)
	for i := range l {
		l[i] = api.Rat(big.NewRat(int64(r.Intn(different)-different/2), int64(1+r.Intn(different))).RatString())
	}
	return l
}

// numbers returns a matrix of math/big.
func numbers(a api.Matrix) [][]*big.Rat {
	rows := make([][]*big.Rat, len(a))
	for i := range a {
		for _, cell := range a[i] {
			n, _ := new(big.Rat).SetString(string(cell))
			rows[i] = append(rows[i], n)
		}
	}
	return rows
}

// echelon is elimination as it is taught, with fractions: it returns the reduced matrix, the columns of the pivots, and the determinant if it is square.
func echelon(a api.Matrix, cols int) (rows [][]*big.Rat, pivots []int, determinant *big.Rat) {
	rows = numbers(a)
	determinant = big.NewRat(1, 1)
	for col := range cols {
		row := len(pivots)
		for row < len(rows) && rows[row][col].Sign() == 0 {
			row++
		}
		if row == len(rows) {
			determinant = new(big.Rat)
			continue
		}
		if row != len(pivots) {
			rows[row], rows[len(pivots)] = rows[len(pivots)], rows[row]
			determinant.Neg(determinant)
		}
		row = len(pivots)
		determinant.Mul(determinant, rows[row][col])
		clearColumn(rows, row, col)
		pivots = append(pivots, col)
	}
	return rows, pivots, determinant
}

func clearColumn(rows [][]*big.Rat, row, col int) {
	inverse := new(big.Rat).Inv(rows[row][col])
	for j := range rows[row] {
		rows[row][j].Mul(rows[row][j], inverse)
	}
	for i := range rows {
		if i == row {
			continue
		}
		factor := new(big.Rat).Set(rows[i][col])
		for j := range rows[i] {
			rows[i][j].Sub(rows[i][j], new(big.Rat).Mul(factor, rows[row][j]))
		}
	}
}

// column returns the last column of the first n rows.
func column(rows [][]*big.Rat, n int) []api.Rat {
	l := make([]api.Rat, n)
	for i := range l {
		l[i] = api.Rat(rows[i][len(rows[i])-1].RatString())
	}
	return l
}

// isZero reports whether all numbers are 0.
func isZero(l []api.Rat) bool {
	for _, a := range l {
		if a != "0" {
			return false
		}
	}
	return true
}

// P3.1

func TestShape(t *testing.T) {
	for _, x := range []struct {
		a          api.Matrix
		rows, cols int
		e          api.Errno
	}{
		{nil, 0, 0, api.OK},
		{api.Matrix{}, 0, 0, api.OK},
		{read(","), 1, 0, api.OK},
		{read(",,,"), 3, 0, api.OK},
		{read("1,"), 1, 1, api.OK},
		{read("1 2/3 -4,0 5 6,"), 2, 3, api.OK},
		{filled(12, 1, nines), 12, 1, api.OK},
		{filled(1, 12, "1/"+nines), 1, 12, api.OK},
		{filled(12, 12, "0"), 12, 12, api.OK},
		{filled(13, 1, "0"), 0, 0, api.ErrLimit},
		{filled(13, 0, "0"), 0, 0, api.ErrLimit},
		{filled(1, 13, "0"), 0, 0, api.ErrLimit},
		{filled(13, 13, "x"), 0, 0, api.ErrLimit},
		{append(read("1,1 2,x,"), filled(1, 13, "0")...), 0, 0, api.ErrLimit},
		{append(filled(12, 2, "0"), nil), 0, 0, api.ErrLimit},
		{read("1 2,3,"), 0, 0, api.ErrShape},
		{read("1,2,3 4,"), 0, 0, api.ErrShape},
		{read(",1,"), 0, 0, api.ErrShape},
		{read("1,,"), 0, 0, api.ErrShape},
		{read("x 01,3,"), 0, 0, api.ErrShape},
		{read("1 2,3 2/4,"), 0, 0, api.ErrNumber},
		{read("1 +2,3 4,"), 0, 0, api.ErrNumber},
		{api.Matrix{{""}}, 0, 0, api.ErrNumber},
		{api.Matrix{{nines + "9"}}, 0, 0, api.ErrNumber},
	} {
		rows, cols, e := matrix.Shape(x.a)
		same(t, "rows", rows, x.rows)
		same(t, "columns", cols, x.cols)
		same(t, "error", e, x.e)
	}
}

// operations are all functions that return an error, as functions of two matrices. Those of one matrix use the first one.
func operations() map[string]func(a, b api.Matrix) (any, api.Errno) {
	row := func(b api.Matrix) []api.Rat {
		if len(b) == 0 {
			return nil
		}
		return b[0]
	}
	return map[string]func(a, b api.Matrix) (any, api.Errno){
		"Transpose":   func(a, b api.Matrix) (any, api.Errno) { return result(matrix.Transpose(a)) },
		"Add":         func(a, b api.Matrix) (any, api.Errno) { return result(matrix.Add(a, b)) },
		"Scale":       func(a, b api.Matrix) (any, api.Errno) { return result(matrix.Scale(a, "2")) },
		"Mul":         func(a, b api.Matrix) (any, api.Errno) { return result(matrix.Mul(a, b)) },
		"Apply":       func(a, b api.Matrix) (any, api.Errno) { return result(matrix.Apply(a, row(b))) },
		"Solve":       func(a, b api.Matrix) (any, api.Errno) { return result(matrix.Solve(a, row(b))) },
		"Inverse":     func(a, b api.Matrix) (any, api.Errno) { return result(matrix.Inverse(a)) },
		"Determinant": func(a, b api.Matrix) (any, api.Errno) { return result(matrix.Determinant(a)) },
		"Rank":        func(a, b api.Matrix) (any, api.Errno) { return result(matrix.Rank(a)) },
		"Kernel":      func(a, b api.Matrix) (any, api.Errno) { return result(matrix.Kernel(a)) },
	}
}

func result[T any](x T, e api.Errno) (any, api.Errno) {
	return x, e
}

func TestErrorsOfShape(t *testing.T) {
	bad := map[api.Errno]api.Matrix{
		api.ErrLimit:  filled(13, 13, "x"),
		api.ErrShape:  read("x x,x,"),
		api.ErrNumber: read("1 2,3 x,"),
	}
	for name, apply := range operations() {
		for want, a := range bad {
			for _, b := range bad {
				got, e := apply(a, b)
				same(t, name+" of no matrix", e, want)
				if !reflect.ValueOf(got).IsZero() {
					t.Errorf("%s: %v with an error", name, got)
				}
			}
		}
	}
	for want, b := range bad {
		// The shapes of these do not fit either.
		for _, a := range []api.Matrix{nil, read("1 2 3,"), read("1 2,3 4,")} {
			got, e := matrix.Add(a, b)
			sameResult(t, "Add", got, e, api.Matrix(nil), want)
			got, e = matrix.Mul(a, b)
			sameResult(t, "Mul", got, e, api.Matrix(nil), want)
		}
	}
}

func TestSame(t *testing.T) {
	valid := []api.Matrix{
		nil, read(","), read(",,"), read("1,"), read("2,"), read("1/2,"), read("1 2,"), read("1,2,"), read("1 2,3 4,"), read("1 2,3 5,"), read("2 1,3 4,"), filled(12, 12, nines),
	}
	for i, a := range valid {
		for j, b := range valid {
			same(t, "same", matrix.Same(a, b), i == j)
		}
		for _, bad := range []api.Matrix{read("x,"), read("1 2,3,"), filled(13, 1, "0"), read("1/1,")} {
			same(t, "same as no matrix", matrix.Same(a, bad), false)
			same(t, "no matrix the same", matrix.Same(bad, a), false)
			same(t, "no matrix as itself", matrix.Same(bad, bad), false)
		}
	}
	same(t, "empty", matrix.Same(nil, api.Matrix{}), true)
	same(t, "empty rows", matrix.Same(api.Matrix{nil}, api.Matrix{{}}), true)
}

// TestHeavy goes through matrices at the limit of MaxSolve, and just beyond it.
func TestHeavy(t *testing.T) {
	half := api.Rat("5" + strings.Repeat("0", 49)) // 50 digits, and 51 for its double
	for _, x := range []struct {
		name  string
		a     api.Matrix
		heavy bool
	}{
		{"12 * 50 digits", filled(12, 12, power(50)), false},
		{"12 * 51 digits", filled(12, 12, power(51)), true},
		{"a - is no digit", filled(12, 12, "-"+power(50)), false},
		{"one great cell", append(filled(11, 12, "0"), append(filled(1, 11, "1")[0], power(51))), true},
		{"12 rows", filled(12, 1, power(50)), false},
		{"12 rows, too long", filled(12, 1, power(51)), true},
		{"12 columns", filled(1, 12, power(50)), false},
		{"12 columns, too long", filled(1, 12, power(51)), true},
		{"12 rows of 2", filled(12, 2, power(51)), true},
		{"2 * 300 digits", filled(2, 2, power(300)), false},
		{"2 * 301 digits", filled(2, 2, power(301)), true},
		{"1 * 400 digits", filled(1, 1, nines), false},
		{"1 * 400 digits below", filled(1, 1, "1/"+nines), false},
		{"1 * 400 digits, above and below", filled(1, 1, nines+"/"+eights), false},
		{"denominators of 50 digits", filled(12, 12, "1/"+power(50)), false},
		{"denominators of 51 digits", filled(12, 12, "1/"+power(51)), true},
		{"a 51st digit by the denominator", append(filled(11, 12, "0"), append(filled(1, 11, half)[0], "1/2")), true},
		{"no 51st digit without it", append(filled(11, 12, "0"), append(filled(1, 11, half)[0], "2")), false},
		{"a cell that becomes short", append(filled(11, 12, "0"), append(filled(1, 11, "1/"+power(50))[0], "7/"+power(50))), false},
		{"the least common denominator, not the product", read("1/" + string(power(299)) + " 1/" + string(power(300)) + ",1 2,"), false},
		{"denominators without a common divisor", read("1/" + string(power(200)) + " 1/" + string(nines[:120]) + ",1 2,"), true},
		{"all denominators different", unlike(), true},
		{"no rows", nil, false},
		{"no columns", filled(12, 0, ""), false},
	} {
		_, e := matrix.Rank(x.a)
		same(t, "Rank, "+x.name, e == api.ErrLimit, x.heavy)
		if rows, cols, _ := matrix.Shape(x.a); rows == cols {
			for name, apply := range operations() {
				if name == "Inverse" || name == "Solve" {
					_, e := apply(x.a, filled(1, rows, "1"))
					same(t, name+", "+x.name, e == api.ErrLimit, x.heavy)
				}
			}
		}
	}
}

// unlike returns a matrix whose cells have long denominators, all of them different.
func unlike() api.Matrix {
	a := filled(12, 12, "")
	for i := range a {
		for j := range a[i] {
			a[i][j] = "1/" + power(390) + rational.Whole(1001+2*(12*i+j))
		}
	}
	return a
}

// P3.2

func TestIdentity(t *testing.T) {
	for n := range api.MaxMatrix + 1 {
		a, e := matrix.Identity(n)
		same(t, "error", e, api.OK)
		rows, cols, e := matrix.Shape(a)
		same(t, "rows", rows, n)
		same(t, "columns", cols, n)
		same(t, "error", e, api.OK)
		for i := range a {
			for j := range a[i] {
				same(t, "cell", a[i][j] == "1", i == j)
				same(t, "cell", a[i][j] == "0", i != j)
			}
		}
	}
	for _, n := range []int{-1, 13, -1 << 63, 1<<63 - 1} {
		a, e := matrix.Identity(n)
		sameResult(t, "Identity", a, e, api.Matrix(nil), api.ErrRange)
	}
}

func TestTranspose(t *testing.T) {
	for _, x := range []struct{ a, want api.Matrix }{
		{nil, nil},
		{read(",,"), nil}, // 0 columns make 0 rows
		{read("1 2/3 -4,0 5 6,"), read("1 0,2/3 5,-4 6,")},
		{read("1 2 3,"), read("1,2,3,")},
		{filled(1, 12, nines), filled(12, 1, nines)},
	} {
		got, e := matrix.Transpose(x.a)
		sameResult(t, "Transpose", got, e, x.want, api.OK)
	}
}

func TestAdd(t *testing.T) {
	for _, x := range []struct {
		a, b, want api.Matrix
		e          api.Errno
	}{
		{nil, nil, nil, api.OK},
		{read(",,"), read(",,"), read(",,"), api.OK},
		{read("1 2/3 -4,0 5 6,"), read("1 1/3 4,1/2 -5 1,"), read("2 1 0,1/2 0 7,"), api.OK},
		{filled(1, 2, nines), filled(1, 2, "-"+nines), filled(1, 2, "0"), api.OK},
		{nil, read(","), nil, api.ErrShape},
		{read(",,"), nil, nil, api.ErrShape},
		{read(","), read(",,"), nil, api.ErrShape},
		{read("1 2,"), read("1,2,"), nil, api.ErrShape},
		{read("1 2,"), read("1,"), nil, api.ErrShape},
		{read("1 2,"), read("1 2,3 4,"), nil, api.ErrShape},
		{filled(2, 2, nines), read("0 0,0 1,"), nil, api.ErrLimit},
	} {
		got, e := matrix.Add(x.a, x.b)
		sameResult(t, "Add", got, e, x.want, x.e)
	}
}

func TestScale(t *testing.T) {
	for _, x := range []struct {
		a    api.Matrix
		k    api.Rat
		want api.Matrix
		e    api.Errno
	}{
		{nil, "2", nil, api.OK},
		{read(",,"), "1/2", read(",,"), api.OK},
		{read("1 2/3 -4,0 5 6,"), "-3/2", read("-3/2 -1 6,0 -15/2 -9,"), api.OK},
		{filled(12, 12, nines), "0", filled(12, 12, "0"), api.OK},
		{filled(2, 2, nines), "1/" + nines, filled(2, 2, "1"), api.OK},
		{nil, "2/4", nil, api.ErrNumber},
		{read("1 2,"), "", nil, api.ErrNumber},
		{filled(1, 1, nines), "x", nil, api.ErrNumber},
		{append(filled(1, 2, "0"), list("0 "+string(nines))), "10", nil, api.ErrLimit},
		{filled(1, 1, "1/"+nines), "1/10", nil, api.ErrLimit},
	} {
		got, e := matrix.Scale(x.a, x.k)
		sameResult(t, "Scale", got, e, x.want, x.e)
	}
}

func TestMul(t *testing.T) {
	for _, x := range []struct {
		a, b, want api.Matrix
		e          api.Errno
	}{
		{nil, nil, nil, api.OK},
		{read(",,"), nil, read(",,"), api.OK}, // 0 columns fit 0 rows
		{nil, read(","), nil, api.ErrShape},
		{nil, read("1,"), nil, api.ErrShape},
		{read("1,"), nil, nil, api.ErrShape},
		{read("1 2,3 4,"), read(",,"), read(",,"), api.OK},
		{read("1 2,3 4,"), read("0 1,1 0,"), read("2 1,4 3,"), api.OK},
		{read("0 1,1 0,"), read("1 2,3 4,"), read("3 4,1 2,"), api.OK},
		{read("1 2/3 -4,0 5 6,"), read("1,3,1/2,"), read("1,18,"), api.OK},
		{read("1,2,"), read("1/2 3 0,"), read("1/2 3 0,1 6 0,"), api.OK},
		{read("1 2 3,"), read("1 2 3,"), nil, api.ErrShape},
		{read("1 2,3 4,"), read("1,"), nil, api.ErrShape},
		{read(","), read("1,"), nil, api.ErrShape},
		{filled(1, 2, nines), api.Matrix{{nines}, {"-" + nines}}, read("0,"), api.OK}, // only the result has to fit
		{filled(12, 12, "1/"+nines), filled(12, 12, nines), filled(12, 12, "12"), api.OK},
		{filled(1, 2, nines), read("0 1,0 1,"), nil, api.ErrLimit},
	} {
		got, e := matrix.Mul(x.a, x.b)
		sameResult(t, "Mul", got, e, x.want, x.e)
	}
}

func TestApply(t *testing.T) {
	for _, x := range []struct {
		a       api.Matrix
		x, want []api.Rat
		e       api.Errno
	}{
		{nil, nil, nil, api.OK},
		{read(",,"), nil, list("0 0"), api.OK},
		{read("1 2/3 -4,0 5 6,"), list("1 3 1/2"), list("1 18"), api.OK},
		{filled(1, 2, nines), []api.Rat{nines, "-" + nines}, list("0"), api.OK},
		{nil, list("1"), nil, api.ErrShape},
		{nil, list("x"), nil, api.ErrShape},
		{read(","), list("1"), nil, api.ErrShape},
		{read("1,2,"), list("1 2"), nil, api.ErrShape},
		{read("1 2,"), nil, nil, api.ErrShape},
		{read("1 2,"), list("1 x 2"), nil, api.ErrShape},
		{read("1 2,"), list("1 2/4"), nil, api.ErrNumber},
		{filled(1, 2, nines), list("2 x"), nil, api.ErrNumber},
		{read("0 0," + string(nines) + " 1,"), list("1 1"), nil, api.ErrLimit},
	} {
		got, e := matrix.Apply(x.a, x.x)
		sameResult(t, "Apply", got, e, x.want, x.e)
	}
}

// TestLaws holds sums and products of random matrices against each other.
func TestLaws(t *testing.T) {
	r := rand.New(rand.NewSource(3))
	for range 200 {
		n, m, k := 1+r.Intn(4), 1+r.Intn(4), 1+r.Intn(4)
		a, b, c := random(r, n, m, 9), random(r, n, m, 9), random(r, m, k, 9)
		sum, _ := matrix.Add(a, b)
		left, _ := matrix.Mul(sum, c)
		ac, _ := matrix.Mul(a, c)
		bc, _ := matrix.Mul(b, c)
		right, _ := matrix.Add(ac, bc)
		same(t, "(a + b) c", left, right)
		double, _ := matrix.Scale(a, "2")
		twice, _ := matrix.Add(a, a)
		same(t, "2 a", double, twice)
		ta, _ := matrix.Transpose(a)
		tc, _ := matrix.Transpose(c)
		product, _ := matrix.Mul(tc, ta)
		back, _ := matrix.Transpose(product)
		same(t, "(c' a')'", back, ac)
		one, _ := matrix.Identity(m)
		unchanged, _ := matrix.Mul(a, one)
		same(t, "a times the identity", unchanged, a)
		for j := range k {
			x := make([]api.Rat, m)
			for i := range x {
				x[i] = c[i][j]
			}
			applied, _ := matrix.Apply(a, x)
			for i := range applied {
				same(t, "column of a product", applied[i], ac[i][j])
			}
		}
	}
}

// P3.3 and P3.4

// squares are square matrices of all sizes, of which many have no inverse.
func squares() []api.Matrix {
	r := rand.New(rand.NewSource(33))
	list := []api.Matrix{
		read("0,"), read("-3/2,"), read("1 2,3 4,"), read("1 2,2 4,"), read("0 1,1 0,"), read("0 1 0,0 0 1,1 0 0,"), read("0 0 1,0 1 0,1 0 0,"),
		read("0 0,0 0,"), read("1 1 1,1 1 1,1 1 2,"), read("0 2 1,0 3 1,5 0 0,"), random(r, 12, 12, 12), random(r, 12, 12, 3),
	}
	for n := range 7 {
		for range 60 {
			list = append(list, random(r, n, n, 2+r.Intn(5)))
		}
	}
	return list
}

func TestSolve(t *testing.T) {
	r := rand.New(rand.NewSource(34))
	for _, a := range squares() {
		b := randomList(r, len(a), 20)
		joined := make(api.Matrix, len(a))
		for i := range a {
			joined[i] = append(append([]api.Rat{}, a[i]...), b[i])
		}
		rows, pivots, _ := echelon(joined, len(a))
		x, e := matrix.Solve(a, b)
		if len(pivots) < len(a) {
			sameResult(t, "Solve", x, e, []api.Rat(nil), api.ErrSingular)
			continue
		}
		sameResult(t, "Solve", x, e, column(rows, len(a)), api.OK)
		back, _ := matrix.Apply(a, x)
		same(t, "Apply of Solve", back, b)
	}
}

func TestInverse(t *testing.T) {
	for _, a := range squares() {
		_, pivots, _ := echelon(a, len(a))
		inverse, e := matrix.Inverse(a)
		if len(pivots) < len(a) {
			sameResult(t, "Inverse", inverse, e, api.Matrix(nil), api.ErrSingular)
			continue
		}
		same(t, "error", e, api.OK)
		one, _ := matrix.Identity(len(a))
		right, _ := matrix.Mul(a, inverse)
		same(t, "a times Inverse", right, one)
		left, _ := matrix.Mul(inverse, a)
		same(t, "Inverse times a", left, one)
	}
}

func TestDeterminant(t *testing.T) {
	empty, e := matrix.Determinant(nil)
	sameResult(t, "Determinant of no rows", empty, e, api.Rat("1"), api.OK)
	list := squares()
	for i, a := range list {
		_, _, want := echelon(a, len(a))
		got, e := matrix.Determinant(a)
		sameResult(t, "Determinant", got, e, api.Rat(want.RatString()), api.OK)
		if i > 0 && len(list[i-1]) == len(a) {
			product, _ := matrix.Mul(list[i-1], a)
			before, _ := matrix.Determinant(list[i-1])
			both, _ := rational.Mul(before, got)
			of, _ := matrix.Determinant(product)
			same(t, "Determinant of a product", of, both)
		}
	}
}

func TestRank(t *testing.T) {
	for _, x := range []struct {
		a    api.Matrix
		want int
	}{
		{nil, 0}, {read(","), 0}, {read(",,,"), 0}, {read("0 0 0,"), 0}, {read("0 0 1,"), 1}, {read("1 2,2 4,3 6,"), 1}, {read("1 2 3,2 4 6,"), 1},
		{read("0 1,0 2,1 0,"), 2}, {read("0 1 2 3,0 0 0 1,0 2 4 7,"), 2}, {filled(12, 12, "1/7"), 1},
	} {
		got, e := matrix.Rank(x.a)
		sameResult(t, "Rank", got, e, x.want, api.OK)
	}
	r := rand.New(rand.NewSource(35))
	for range 400 {
		a := random(r, 1+r.Intn(6), 1+r.Intn(6), 2+r.Intn(4))
		_, pivots, _ := echelon(a, len(a[0]))
		got, e := matrix.Rank(a)
		sameResult(t, "Rank", got, e, len(pivots), api.OK)
		back, _ := matrix.Transpose(a)
		turned, e := matrix.Rank(back)
		sameResult(t, "Rank of Transpose", turned, e, got, api.OK)
	}
}

func TestKernel(t *testing.T) {
	for _, x := range []struct {
		a    api.Matrix
		want []api.Rat
		e    api.Errno
	}{
		{read("1 2,2 4,"), list("-2 1"), api.OK},
		{read("0,"), list("1"), api.OK},
		{read("0 1 2,"), list("1 0 0"), api.OK},
		{read("1 0 2,"), list("0 1 0"), api.OK},
		{read("2 3 5 7,"), list("-3/2 1 0 0"), api.OK},
		{read("0 1 2 3,1 1 1 9,"), list("1 -2 1 0"), api.OK},
		{read("0 1 2 3,1 1 1 9,0 0 1 0,"), list("-6 -3 0 1"), api.OK},
		{read("1 1 0 1,1 1 0 2,"), list("-1 1 0 0"), api.OK},
		{nil, nil, api.ErrNone},
		{read(",,"), nil, api.ErrNone},
		{read("1,"), nil, api.ErrNone},
		{read("0,0,1/2,"), nil, api.ErrNone},
		{read("1 2,3 4,"), nil, api.ErrNone},
		{read("1 2,2 4,0 1,"), nil, api.ErrNone},
	} {
		got, e := matrix.Kernel(x.a)
		sameResult(t, "Kernel", got, e, x.want, x.e)
	}
	r := rand.New(rand.NewSource(36))
	for range 400 {
		checkKernel(t, random(r, 1+r.Intn(5), 1+r.Intn(6), 2+r.Intn(4)))
	}
}

// checkKernel finds the first column that is a sum of multiples of those before it by the ranks of the columns up to each.
func checkKernel(t *testing.T, a api.Matrix) {
	t.Helper()
	cols := len(a[0])
	first := 0
	for first < cols {
		if _, pivots, _ := echelon(a, first+1); len(pivots) <= first {
			break
		}
		first++
	}
	got, e := matrix.Kernel(a)
	if first == cols {
		sameResult(t, "Kernel", got, e, []api.Rat(nil), api.ErrNone)
		return
	}
	same(t, "error of Kernel", e, api.OK)
	same(t, "elements of Kernel", len(got), cols)
	same(t, "Kernel at the column", got[first], api.Rat("1"))
	same(t, "Kernel behind the column", isZero(got[first+1:]), true)
	zero, e := matrix.Apply(a, got)
	same(t, "Apply of Kernel", e == api.OK && isZero(zero), true)
}

// TestErrorsOfSolving goes through the errors in their order: each case has all errors that come after its own as well, as far as they go together.
func TestErrorsOfSolving(t *testing.T) {
	long, short := "1"+power(300), power(300) // 2 rows of 301 digits are heavy
	for _, x := range []struct {
		name string
		a    api.Matrix
		b    []api.Rat
		want api.Errno
	}{
		{"not square", filled(2, 1, long), list("x"), api.ErrShape},
		{"not square", filled(1, 2, long), list("x"), api.ErrShape},
		{"rows without columns", read(",,"), list("x x"), api.ErrShape},
		{"b too short", filled(2, 2, long), list("x"), api.ErrShape},
		{"b too long", filled(2, 2, long), list("x x x"), api.ErrShape},
		{"b of no matrix", nil, list("x"), api.ErrShape},
		{"no b", read("0,"), nil, api.ErrShape},
		{"no number in b", filled(2, 2, long), []api.Rat{long, "2/4"}, api.ErrNumber},
		{"a is heavy", filled(2, 2, long), list("1 1"), api.ErrLimit},
		{"b is heavy", filled(2, 2, "1"), []api.Rat{long, "1"}, api.ErrLimit},
		{"b is heavy by its denominators", filled(2, 2, "1"), []api.Rat{"1/" + short, short}, api.ErrLimit},
		{"no solution", filled(2, 2, short), []api.Rat{short, "2"}, api.ErrSingular},
		{"many solutions", filled(2, 2, short), []api.Rat{short, short}, api.ErrSingular},
		{"many solutions", read("0,"), list("0"), api.ErrSingular},
	} {
		got, e := matrix.Solve(x.a, x.b)
		sameResult(t, "Solve, "+x.name, got, e, []api.Rat(nil), x.want)
	}
	for _, x := range []struct {
		name                 string
		a                    api.Matrix
		inverse, determinant api.Errno
	}{
		{"not square", filled(2, 1, long), api.ErrShape, api.ErrShape},
		{"not square", filled(1, 2, long), api.ErrShape, api.ErrShape},
		{"rows without columns", read(",,"), api.ErrShape, api.ErrShape},
		{"heavy", filled(2, 2, long), api.ErrLimit, api.ErrLimit},
		{"singular", filled(2, 2, short), api.ErrSingular, api.OK},
		{"singular", read("0,"), api.ErrSingular, api.OK},
	} {
		inverse, e := matrix.Inverse(x.a)
		sameResult(t, "Inverse, "+x.name, inverse, e, api.Matrix(nil), x.inverse)
		determinant, e := matrix.Determinant(x.a)
		if e == api.OK {
			same(t, "Determinant, "+x.name, determinant, api.Rat("0"))
		}
		same(t, "error of Determinant, "+x.name, e, x.determinant)
	}
	heavy := append(filled(1, 2, long), list("0 0"))
	got, e := matrix.Kernel(heavy)
	sameResult(t, "Kernel, heavy", got, e, []api.Rat(nil), api.ErrLimit)
	rank, e := matrix.Rank(heavy)
	sameResult(t, "Rank, heavy", rank, e, 0, api.ErrLimit)
}

// TestLongResults has results that just fit, and others that do not, from numbers of up to 1200 digits on the way.
func TestLongResults(t *testing.T) {
	long := power(300)
	upper := api.Matrix{{long, "1"}, {"0", "1"}} // its determinant is long, its inverse has 1 / long and -1 / long
	a := api.Matrix{{long, "1"}, {"1", long}}    // its determinant has 599 digits
	sum, _ := rational.Add(long, "1")
	x, e := matrix.Solve(a, []api.Rat{sum, sum})
	sameResult(t, "Solve, short", x, e, list("1 1"), api.OK)
	x, e = matrix.Solve(a, list("1 0"))
	sameResult(t, "Solve, too long", x, e, []api.Rat(nil), api.ErrLimit)
	inverse, e := matrix.Inverse(upper)
	sameResult(t, "Inverse, short", inverse, e, api.Matrix{{"1/" + long, "-1/" + long}, {"0", "1"}}, api.OK)
	inverse, e = matrix.Inverse(a)
	sameResult(t, "Inverse, too long", inverse, e, api.Matrix(nil), api.ErrLimit)
	determinant, e := matrix.Determinant(upper)
	sameResult(t, "Determinant, short", determinant, e, long, api.OK)
	determinant, e = matrix.Determinant(a)
	sameResult(t, "Determinant, too long", determinant, e, api.Rat(""), api.ErrLimit)
	rank, e := matrix.Rank(a)
	sameResult(t, "Rank", rank, e, 2, api.OK)

	third := power(200)
	vector, e := matrix.Kernel(api.Matrix{{third, "1", "0"}, {"0", third, "1"}})
	sameResult(t, "Kernel, short", vector, e, []api.Rat{"1/1" + api.Rat(strings.Repeat("0", 398)), "-1/" + third, "1"}, api.OK)
	quarter := power(150)
	vector, e = matrix.Kernel(api.Matrix{{quarter, "1", "0", "0"}, {"0", quarter, "1", "0"}, {"0", "0", quarter, "1"}})
	sameResult(t, "Kernel, too long", vector, e, []api.Rat(nil), api.ErrLimit)

	full, e := matrix.Solve(api.Matrix{{"1/" + nines}}, []api.Rat{"1"})
	sameResult(t, "Solve, at the limit", full, e, []api.Rat{nines}, api.OK)
	full, e = matrix.Solve(api.Matrix{{"1/" + nines}}, []api.Rat{"10"})
	sameResult(t, "Solve, beyond the limit", full, e, []api.Rat(nil), api.ErrLimit)
}

// R2

// TestArguments holds that no function writes into its arguments, and that writing into a result changes neither them nor the rest of it.
func TestArguments(t *testing.T) {
	for name, apply := range operations() {
		a, b := read("1/2 2,3 5/7,"), read("3 1/3,2 4,")
		got, _ := apply(a, b)
		if m, ok := got.(api.Matrix); ok {
			for i := range m {
				for j := range m[i] {
					before := m[0][0]
					m[i][j] = "x"
					same(t, "another cell of "+name, m[0][0] == before, i+j > 0)
				}
				_ = append(m[i], "y")
				same(t, "row of "+name, m[len(m)-1][0] == "y", false)
			}
		}
		if l, ok := got.([]api.Rat); ok && len(l) > 0 {
			l[0] = "x"
		}
		same(t, "first argument of "+name, a, read("1/2 2,3 5/7,"))
		same(t, "second argument of "+name, b, read("3 1/3,2 4,"))
	}
}
