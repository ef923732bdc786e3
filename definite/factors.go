package definite

import (
	"slices"

	"joinlearn/api"
	"joinlearn/matrix"
	"joinlearn/scaled"
	"joinlearn/wide"
)

// Decompose returns the factors of a positive matrix.
func Decompose(a api.Matrix) (api.Factors, api.Errno) {
	m, e := read(a)
	if e != api.OK {
		return api.Factors{}, e
	}
	n := len(a)
	diagonal, lower := make([]wide.Rat, n), make([][]wide.Rat, n)
	for i := range lower {
		lower[i] = make([]wide.Rat, n)
	}
	_, positive := eliminate(m, func(reduced *scaled.Elimination, k int) {
		// The cells are those of the elimination with fractions, times the pivot before this one and the denominator.
		pivot := reduced.Cell(k, k)
		diagonal[k] = wide.MakeRat(pivot, reduced.Pivot().Times(m.Den))
		for i := k; i < n; i++ {
			lower[i][k] = wide.MakeRat(reduced.Cell(i, k), pivot)
		}
	})
	if positive < n {
		return api.Factors{}, api.ErrSingular
	}
	return write(lower, diagonal)
}

func write(lower [][]wide.Rat, diagonal []wide.Rat) (api.Factors, api.Errno) {
	l, e := wide.WriteRows(lower)
	if e != api.OK {
		return api.Factors{}, e
	}
	d, e := wide.WriteList(diagonal)
	if e != api.OK {
		return api.Factors{}, e
	}
	return api.Factors{L: l, D: d}, api.OK
}

// Check reports whether f proves that a is positive.
func Check(a api.Matrix, f api.Factors) bool {
	n, e := size(f)
	if e != api.OK || n != len(a) || !Symmetric(a) || !unitLower(f.L) || !allPositive(f.D) {
		return false
	}
	lower, diagonal := wide.ReadRows(f.L), wide.ReadList(f.D)
	for i := range n {
		row := make([]wide.Rat, i+1) // of L D
		for j := range row {
			row[j] = lower[i][j].Times(diagonal[j])
		}
		for j := range row {
			product := wide.Dot(row[:j+1], lower[j][:j+1])
			if product.Compare(wide.ReadRat(a[i][j])) != 0 {
				return false
			}
		}
	}
	return true
}

// size returns the number of rows of factors. It says nothing of what D contains.
func size(f api.Factors) (int, api.Errno) {
	rows, cols, e := matrix.Shape(f.L)
	if e != api.OK {
		return 0, e
	}
	if rows != cols || len(f.D) != rows {
		return 0, api.ErrShape
	}
	return rows, api.OK
}

// Solve returns the only x with L D L' x = b.
func Solve(f api.Factors, b []api.Rat) ([]api.Rat, api.Errno) {
	if e := checkSolve(f, b); e != api.OK {
		return nil, e
	}
	columns, _ := matrix.Transpose(f.L)
	lower, upper, diagonal := wide.ReadRows(f.L), wide.ReadRows(columns), wide.ReadList(f.D)
	x := wide.ReadList(b)
	for i := range x {
		x[i] = x[i].Minus(wide.Dot(lower[i][:i], x[:i]))
	}
	for i, d := range diagonal {
		x[i] = x[i].Over(d)
	}
	for i := len(x) - 1; i >= 0; i-- {
		x[i] = x[i].Minus(wide.Dot(upper[i][i+1:], x[i+1:]))
	}
	return wide.WriteList(x)
}

// checkSolve returns the first error of Solve but that of its result.
func checkSolve(f api.Factors, b []api.Rat) api.Errno {
	n, e := size(f)
	if e != api.OK {
		return e
	}
	if len(b) != n {
		return api.ErrShape
	}
	if e := checkLists(f.D, b); e != api.OK {
		return e
	}
	_, lightL := scaled.Make(n, f.L...)
	_, lightD := scaled.Make(n, f.D)
	_, lightB := scaled.Make(n, b)
	if !lightL || !lightD || !lightB {
		return api.ErrLimit
	}
	if !unitLower(f.L) || slices.Contains(f.D, "0") {
		return api.ErrSingular
	}
	return api.OK
}
