package scaled

import "joinlearn/wide"

// Elimination is Gauss and Jordan's without fractions (Bareiss): all cells stay minors of the matrix from which it began.
type Elimination struct {
	rows  [][]wide.Int
	pivot wide.Int
}

// Start begins the elimination of a matrix. It writes into the rows.
func Start(rows [][]wide.Int) *Elimination {
	return &Elimination{rows, wide.Make(1)}
}

// Cell returns a cell of what the matrix has become.
func (e *Elimination) Cell(row, col int) wide.Int {
	return e.rows[row][col]
}

// Pivot returns what the cells that were cleared around now all are: the determinant of their rows and columns in the matrix from which it began, after the swaps.
func (e *Elimination) Pivot() wide.Int {
	return e.pivot
}

// Swap exchanges two rows.
func (e *Elimination) Swap(i, j int) {
	e.rows[i], e.rows[j] = e.rows[j], e.rows[i]
}

// Clear makes the column 0 in all rows but the given one, by adding multiples of that row. Its cell in the column must not be 0, and neither must have been chosen before.
func (e *Elimination) Clear(row, col int) {
	chosen := e.rows[row]
	pivot := chosen[col]
	for i, other := range e.rows {
		if i == row {
			continue
		}
		factor := other[col]
		for j, cell := range other {
			// There is no rest: the quotient is a minor as well.
			other[j], _ = pivot.Times(cell).Minus(factor.Times(chosen[j])).Divide(e.pivot)
		}
	}
	e.pivot = pivot
}
