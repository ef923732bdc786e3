// Package scaled computes with matrices of integers over one common denominator: so there are no fractions on the way to a result.
package scaled

import (
	"joinlearn/api"
	"joinlearn/wide"
)

// Matrix stands for the numbers Cells / Den.
type Matrix struct {
	Cells [][]wide.Int
	Den   wide.Int
}

// Make returns the matrix of rows of valid numbers over their least common denominator, and true; false if it is heavy (chapter 3). size is the greater one of its numbers of rows and columns.
func Make(size int, rows ...[]api.Rat) (Matrix, bool) {
	numbers := wide.ReadRows(rows)
	den, ok := commonDenominator(size, numbers)
	if !ok {
		return Matrix{}, false
	}
	cells := make([][]wide.Int, len(numbers))
	for i, row := range numbers {
		cells[i] = make([]wide.Int, len(row))
		for j, a := range row {
			factor, _ := den.Divide(a.Den())
			cells[i][j] = a.Num().Times(factor)
			if heavy(size, cells[i][j]) {
				return Matrix{}, false
			}
		}
	}
	return Matrix{cells, den}, true
}

// commonDenominator returns the least common denominator, and whether it is not heavy. It stops as soon as it is, before it grows out of all proportion.
func commonDenominator(size int, rows [][]wide.Rat) (wide.Int, bool) {
	common := wide.Make(1)
	for _, row := range rows {
		for _, a := range row {
			factor, _ := a.Den().Divide(common.Gcd(a.Den()))
			common = common.Times(factor)
			if heavy(size, common) {
				return wide.Int{}, false
			}
		}
	}
	return common, true
}

// heavy reports whether a cell or denominator has too many digits for a matrix of the size.
func heavy(size int, a wide.Int) bool {
	return size*len(a.Digits()) > api.MaxSolve
}
