package wide

import "joinlearn/api"

// ReadList returns the fractions of a list, which must be canonical.
func ReadList(l []api.Rat) []Rat {
	numbers := make([]Rat, len(l))
	for i, a := range l {
		numbers[i] = ReadRat(a)
	}
	return numbers
}

// ReadRows returns the fractions of a list of lists, which must be canonical.
func ReadRows(rows [][]api.Rat) [][]Rat {
	numbers := make([][]Rat, len(rows))
	for i, row := range rows {
		numbers[i] = ReadList(row)
	}
	return numbers
}

// WriteList returns the texts of a list, and ErrLimit if one of its numbers does not fit.
func WriteList(l []Rat) ([]api.Rat, api.Errno) {
	texts := make([]api.Rat, len(l))
	for i, a := range l {
		text, e := a.Write()
		if e != api.OK {
			return nil, e
		}
		texts[i] = text
	}
	return texts, api.OK
}

// WriteRows returns the texts of a list of lists, and ErrLimit if one of its numbers does not fit.
func WriteRows(rows [][]Rat) ([][]api.Rat, api.Errno) {
	texts := make([][]api.Rat, len(rows))
	for i, row := range rows {
		l, e := WriteList(row)
		if e != api.OK {
			return nil, e
		}
		texts[i] = l
	}
	return texts, api.OK
}

// Dot returns the sum of the products of two lists of the same length.
func Dot(a, b []Rat) Rat {
	sum := Rat{}
	for i := range min(len(a), len(b)) {
		sum = sum.Plus(a[i].Times(b[i]))
	}
	return sum
}
