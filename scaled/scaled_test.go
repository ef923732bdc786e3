package scaled_test

import (
	"strings"
	"testing"

	"joinlearn/api"
	"joinlearn/scaled"
	"joinlearn/wide"
)

// cells writes a matrix of integers as rows that end with commas.
func cells(rows [][]wide.Int) string {
	var text strings.Builder
	for _, row := range rows {
		for _, a := range row {
			number, _ := wide.Whole(a).Write()
			text.WriteString(" " + string(number))
		}
		text.WriteString(",")
	}
	return text.String()
}

func TestMake(t *testing.T) {
	for _, x := range []struct {
		rows  [][]api.Rat
		cells string
		den   string
	}{
		{nil, "", "1"},
		{[][]api.Rat{nil, nil}, ",,", "1"},
		{[][]api.Rat{{"1", "-2"}, {"0", "3"}}, " 1 -2, 0 3,", "1"},
		{[][]api.Rat{{"1/6", "-3/4", "0"}, {"2", "1/2", "5/12"}}, " 2 -9 0, 24 6 5,", "12"},
		{[][]api.Rat{{"1/2", "1/3", "1/5", "1/7"}}, " 105 70 42 30,", "210"},
	} {
		m, ok := scaled.Make(12, x.rows...)
		if got := cells(m.Cells); got != x.cells || m.Den.Digits() != x.den || !ok {
			t.Errorf("%v: %v / %v %v", x.rows, got, m.Den.Digits(), ok)
		}
	}
}

func TestHeavy(t *testing.T) {
	fifty := api.Rat("1" + strings.Repeat("0", 49))
	for _, x := range []struct {
		size  int
		row   []api.Rat
		light bool
	}{
		{12, []api.Rat{"-" + fifty}, true},
		{12, []api.Rat{"-" + fifty + "0"}, false},
		{11, []api.Rat{fifty + "0"}, true},
		{12, []api.Rat{"1/" + fifty, "1"}, true},
		{12, []api.Rat{"1/" + fifty + "0"}, false},
		{12, []api.Rat{fifty, "1/9"}, true},
		{12, []api.Rat{fifty, "1/11"}, false},
		{0, []api.Rat{fifty + fifty}, true},
	} {
		if m, ok := scaled.Make(x.size, x.row); ok != x.light || !ok && m.Cells != nil {
			t.Errorf("%v * %v: %v %v", x.size, x.row, cells(m.Cells), ok)
		}
	}
}

// TestElimination follows an elimination by hand.
func TestElimination(t *testing.T) {
	m, _ := scaled.Make(3, [][]api.Rat{{"0", "2", "1"}, {"3", "4", "5"}, {"6", "7", "-8"}}...)
	e := scaled.Start(m.Cells)
	all := func() string {
		rows := make([][]wide.Int, 3)
		for i := range rows {
			for j := range 3 {
				rows[i] = append(rows[i], e.Cell(i, j))
			}
		}
		return cells(rows) + " " + e.Pivot().Digits()
	}
	for _, x := range []struct {
		step func()
		want string
	}{
		{func() {}, " 0 2 1, 3 4 5, 6 7 -8, 1"},
		{func() { e.Swap(0, 1) }, " 3 4 5, 0 2 1, 6 7 -8, 1"},
		{func() { e.Clear(0, 0) }, " 3 4 5, 0 6 3, 0 -3 -54, 3"},
		{func() { e.Clear(1, 1) }, " 6 0 6, 0 6 3, 0 0 -105, 6"},
		{func() { e.Clear(2, 2) }, " -105 0 0, 0 -105 0, 0 0 -105, 105"},
	} {
		x.step()
		if got := all(); got != x.want {
			t.Errorf("%v, not %v", got, x.want)
		}
	}
}
