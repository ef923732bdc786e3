package matrix

import (
	"joinlearn/api"
	"joinlearn/scaled"
	"joinlearn/wide"
)

// Solve returns the only x for which Apply of a and x is b.
func Solve(a api.Matrix, b []api.Rat) ([]api.Rat, api.Errno) {
	n, e := square(a)
	switch {
	case e != api.OK:
		return nil, e
	case len(b) != n:
		return nil, api.ErrShape
	case !valid(b):
		return nil, api.ErrNumber
	}
	left, okLeft := scaled.Make(n, a...)
	right, okRight := scaled.Make(n, b)
	if !okLeft || !okRight {
		return nil, api.ErrLimit
	}
	for i := range left.Cells {
		left.Cells[i] = append(left.Cells[i], right.Cells[0][i])
	}
	r := reduce(left.Cells, n)
	if r.rank < n {
		return nil, api.ErrSingular
	}
	// a x = b says (left / left.Den) x = right / right.Den.
	return list(n, func(i int) (api.Rat, api.Errno) { return r.number(i, n, left.Den, right.Den) })
}

// Inverse returns the only matrix whose product with a is the identity.
func Inverse(a api.Matrix) (api.Matrix, api.Errno) {
	n, e := square(a)
	if e != api.OK {
		return nil, e
	}
	left, ok := scaled.Make(n, a...)
	if !ok {
		return nil, api.ErrLimit
	}
	for i := range left.Cells {
		unit := make([]wide.Int, n)
		unit[i] = wide.Make(1)
		left.Cells[i] = append(left.Cells[i], unit...)
	}
	r := reduce(left.Cells, n)
	if r.rank < n {
		return nil, api.ErrSingular
	}
	return build(n, n, func(i, j int) (api.Rat, api.Errno) { return r.number(i, n+j, left.Den, wide.Make(1)) })
}

// Determinant returns the determinant of a.
func Determinant(a api.Matrix) (api.Rat, api.Errno) {
	n, e := square(a)
	if e != api.OK {
		return "", e
	}
	m, ok := scaled.Make(n, a...)
	if !ok {
		return "", api.ErrLimit
	}
	r := reduce(m.Cells, n)
	if r.rank < n {
		return "0", api.OK
	}
	num, den := r.Pivot(), wide.Make(1)
	if r.odd {
		num = num.Negated()
	}
	for range n {
		den = den.Times(m.Den)
	}
	return wide.MakeRat(num, den).Write()
}

// Rank returns the greatest number of rows of which none is a sum of multiples of the others.
func Rank(a api.Matrix) (int, api.Errno) {
	r, e := reduceAll(a)
	return r.rank, e
}

// Kernel returns a vector other than 0 that a turns into 0.
func Kernel(a api.Matrix) ([]api.Rat, api.Errno) {
	r, e := reduceAll(a)
	if e != api.OK {
		return nil, e
	}
	_, cols := size(a)
	if r.rank == cols {
		return nil, api.ErrNone
	}
	return list(cols, func(i int) (api.Rat, api.Errno) {
		switch {
		case i < r.free: // all columns before it have a pivot, each in the row of its own index
			return r.number(i, r.free, wide.Make(-1), wide.Make(1))
		case i == r.free:
			return "1", api.OK
		}
		return "0", api.OK
	})
}

// square returns the number of rows of a square matrix, and ErrShape if it is none.
func square(a api.Matrix) (int, api.Errno) {
	rows, cols, e := Shape(a)
	if e != api.OK {
		return 0, e
	}
	if rows != cols {
		return 0, api.ErrShape
	}
	return rows, api.OK
}

// reduceAll reduces all columns of a matrix. It needs no denominator: the multiples of the rows are the same without.
func reduceAll(a api.Matrix) (reduction, api.Errno) {
	rows, cols, e := Shape(a)
	if e != api.OK {
		return reduction{}, e
	}
	m, ok := scaled.Make(max(rows, cols), a...)
	if !ok {
		return reduction{}, api.ErrLimit
	}
	return reduce(m.Cells, cols), api.OK
}

// reduction is a matrix whose rows with a pivot come first, in the order of their columns.
type reduction struct {
	*scaled.Elimination
	rank int  // how many columns have a pivot
	free int  // the first column without one
	odd  bool // whether the number of rows that were exchanged is odd
}

// reduce eliminates the first columns of a matrix, where they are no sums of multiples of those before them.
func reduce(rows [][]wide.Int, cols int) reduction {
	r := reduction{Elimination: scaled.Start(rows), free: cols}
	for col := range cols {
		row := r.rank
		for row < len(rows) && r.Cell(row, col).Sign() == 0 {
			row++
		}
		if row == len(rows) {
			r.free = min(r.free, col)
			continue
		}
		if row != r.rank {
			r.Swap(row, r.rank)
			r.odd = !r.odd
		}
		r.Clear(r.rank, col)
		r.rank++
	}
	return r
}

// number returns a cell divided by the pivot, times num / den.
func (r reduction) number(row, col int, num, den wide.Int) (api.Rat, api.Errno) {
	return wide.MakeRat(r.Cell(row, col).Times(num), r.Pivot().Times(den)).Write()
}
