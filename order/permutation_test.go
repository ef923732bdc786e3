package order_test

import (
	"fmt"
	"math/rand"
	"slices"
	"testing"

	"joinlearn/api"
	"joinlearn/order"
)

// hangs compares the order of a permutation with what is expected.
func hangs(t *testing.T, s api.Schema, permutation, parent []int) {
	t.Helper()
	o, e := order.Of(s, permutation)
	if !slices.Equal(o.Parent, parent) || e != api.OK {
		t.Errorf("Of %v for %s: %v, %d, not %v", permutation, name(s), o.Parent, e, parent)
	}
	if e := order.Check(s, o); e != api.OK {
		t.Errorf("the order of %v for %s is not right: %d", permutation, name(s), e)
	}
}

func TestOf(t *testing.T) {
	for _, x := range []struct {
		relations           string
		permutation, parent []int
	}{
		{"ab bc", list(1, 0, 2), list(1, -1, 1)},
		{"ab bc", list(1, 2, 0), list(1, -1, 1)},
		{"ab bc", list(0, 1, 2), list(-1, 0, 1)},
		{"ab bc", list(0, 2, 1), list(-1, 2, 0)},
		{"ab bc", list(2, 0, 1), list(2, 0, -1)},
		{"ab bc", list(2, 1, 0), list(1, 2, -1)},
		{"ab bc ac", list(0, 1, 2), list(-1, 0, 1)},
		{"ab bc ac", list(1, 2, 0), list(2, -1, 1)},
		{"abc", list(2, 0, 1), list(2, 0, -1)},
		{"a", list(0), list(-1)},
		{"a b", list(0, 1), list(-1, -1)},
		{"a b", list(1, 0), list(-1, -1)},
		{"ab cd", list(3, 0, 2, 1), list(-1, 0, 3, -1)},
		{"ab cd", list(1, 2, 0, 3), list(1, -1, -1, 2)},
		{"abc", list(1, 0, 2), list(1, -1, 0)},
		{"ad bd cd", list(3, 0, 1, 2), list(3, 3, 3, -1)},
		{"ad bd cd", list(0, 1, 2, 3), list(-1, 0, 1, 2)},
		{"ad bd cd", list(1, 3, 2, 0), list(3, -1, 3, 1)},
		{"ab bc cd de", list(2, 0, 3, 1, 4), list(2, 0, -1, 2, 3)},
		{"ab bc cd de", list(2, 1, 4, 3, 0), list(1, 2, -1, 4, 2)},
		{"ab bc cd de", list(0, 4, 2, 3, 1), list(-1, 2, 4, 2, 0)},
		{"abc cde", list(2, 4, 1, 0, 3), list(1, 2, -1, 4, 2)},
		{"abc cde", list(0, 2, 3, 1, 4), list(-1, 2, 0, 2, 3)},
		{"abc bd ce de", list(0, 3, 4, 1, 2), list(-1, 4, 1, 0, 3)},
		{"abc bd ce de", list(1, 2, 3, 0, 4), list(2, -1, 1, 2, 3)},
		{"ab bc cd de ef af", list(0, 3, 1, 2, 4, 5), list(-1, 3, 1, 0, 3, 4)},
		{"ab cd ef gh ij kl", list(11, 10, 9, 8, 7, 6, 5, 4, 3, 2, 1, 0), list(1, -1, 3, -1, 5, -1, 7, -1, 9, -1, 11, -1)},
		{"abcdefghijkl", list(11, 10, 9, 8, 7, 6, 5, 4, 3, 2, 1, 0), list(1, 2, 3, 4, 5, 6, 7, 8, 9, 10, 11, -1)},
	} {
		hangs(t, parsed(x.relations), x.permutation, x.parent)
	}
}

// refuses checks that there is no order of a permutation.
func refuses(t *testing.T, s api.Schema, permutation []int, want api.Errno) {
	t.Helper()
	if o, e := order.Of(s, permutation); len(o.Parent) != 0 || e != want {
		t.Errorf("Of %v for %s: %v, %d, not %d", permutation[:min(len(permutation), 20)], name(s), o.Parent, e, want)
	}
}

func TestOfErrors(t *testing.T) {
	for _, x := range []struct {
		relations   string
		permutation []int
		want        api.Errno
	}{
		{"ab bc", nil, api.ErrShape},
		{"ab bc", list(), api.ErrShape},
		{"ab bc", list(0, 1), api.ErrShape},
		{"ab bc", list(0, 1, 2, 3), api.ErrShape},
		{"ab bc", list(0, 1, 2, 2), api.ErrShape},
		{"ab bc", list(0, 0), api.ErrShape},
		{"ab bc", list(-1, 9, 9, 9), api.ErrShape},
		{"ab bc", make([]int, 1<<20), api.ErrShape},
		{"ab bc", list(0, 1, 3), api.ErrRange},
		{"ab bc", list(3, 1, 2), api.ErrRange},
		{"ab bc", list(-1, 1, 2), api.ErrRange},
		{"ab bc", list(0, 1, -1), api.ErrRange},
		{"ab bc", list(0, greatest, 2), api.ErrRange},
		{"ab bc", list(0, smallest, 2), api.ErrRange},
		{"ab bc", list(0, 64, 2), api.ErrRange},
		{"ab bc", list(0, 0, 3), api.ErrRange},
		{"ab bc", list(1, 1, -1), api.ErrRange},
		{"ab bc", list(3, 3, 3), api.ErrRange},
		{"ab bc", list(0, 0, 1), api.ErrTwice},
		{"ab bc", list(0, 1, 0), api.ErrTwice},
		{"ab bc", list(1, 2, 2), api.ErrTwice},
		{"ab bc", list(2, 2, 2), api.ErrTwice},
		{"a", nil, api.ErrShape},
		{"a", list(0, 0), api.ErrShape},
		{"a", list(1), api.ErrRange},
		{"a", list(-1), api.ErrRange},
		{"a b", list(1, 1), api.ErrTwice},
		{"abcdefghijkl", list(0, 1, 2, 3, 4, 5, 6, 7, 8, 9, 10), api.ErrShape},
		{"abcdefghijkl", list(0, 1, 2, 3, 4, 5, 6, 7, 8, 9, 10, 11, 12), api.ErrShape},
		{"abcdefghijkl", list(0, 1, 2, 3, 4, 5, 6, 7, 8, 9, 10, 12), api.ErrRange},
		{"abcdefghijkl", list(0, 1, 2, 3, 4, 5, 6, 7, 8, 9, 10, 0), api.ErrTwice},
	} {
		refuses(t, parsed(x.relations), x.permutation, x.want)
	}
}

// TestOfLists goes through all lists for some schemas: those that are no permutations are refused.
func TestOfLists(t *testing.T) {
	for _, relations := range []string{"a", "ab", "a b", "ab bc", "ac b", "abc", "ab bc ac"} {
		s := parsed(relations)
		b, n := textbookOf(s), len(s.Attributes)
		lists(n, -1, n, func(l []int) {
			sorted := slices.Sorted(slices.Values(l))
			switch {
			case sorted[0] < 0 || sorted[n-1] >= n:
				refuses(t, s, l, api.ErrRange)
			case len(slices.Compact(sorted)) < n:
				refuses(t, s, l, api.ErrTwice)
			default:
				hangs(t, s, l, b.of(l))
			}
		})
	}
}

// TestOfTextbook goes through all permutations for small schemas, and some for great ones.
func TestOfTextbook(t *testing.T) {
	for _, s := range slices.Concat(every(1, 2), every(2, 2), every(3, 3), every(4, 2), every(4, 3)) {
		b := textbookOf(s)
		permutations(len(s.Attributes), func(l []int) { hangs(t, s, l, b.of(l)) })
	}
	r := rand.New(rand.NewSource(9))
	for i := range 4000 {
		n := 1 + r.Intn(api.MaxAttributes)
		s := sparse(r, n)
		if i%2 == 0 {
			s = pseudoRandom(r, n)
		}
		permutation := r.Perm(n)
		hangs(t, s, permutation, textbookOf(s).of(permutation))
	}
}

// isLeast compares Least with what is expected.
func isLeast(t *testing.T, s api.Schema, permutation, parent []int, width int) {
	t.Helper()
	o, found, e := order.Least(s)
	if !slices.Equal(found, permutation) || !slices.Equal(o.Parent, parent) || e != api.OK {
		t.Errorf("Least of %s: %v, %v, %d, not %v, %v", name(s), o.Parent, found, e, parent, permutation)
	}
	if got, e := order.Width(s, o); got != width || e != api.OK {
		t.Errorf("Width of Least of %s: %d, %d, not %d", name(s), got, e, width)
	}
}

func TestLeast(t *testing.T) {
	for _, x := range []struct {
		relations           string
		permutation, parent []int
		width               int
	}{
		{"a", list(0), list(-1), 1},
		{"a a", list(0), list(-1), 1},
		{"a b c", list(0, 1, 2), list(-1, -1, -1), 1},
		{"ab", list(0, 1), list(-1, 0), 2},
		{"ab c", list(0, 1, 2), list(-1, 0, -1), 2},
		{"ab bc", list(0, 1, 2), list(-1, 0, 1), 2},
		{"ac bc", list(0, 2, 1), list(-1, 2, 0), 2},
		{"ab ac", list(0, 1, 2), list(-1, 0, 0), 2},
		{"ab bc ac", list(0, 1, 2), list(-1, 0, 1), 3},
		{"abc", list(0, 1, 2), list(-1, 0, 1), 3},
		{"ab cd", list(0, 1, 2, 3), list(-1, 0, -1, 2), 2},
		{"ad bd cd", list(0, 3, 1, 2), list(-1, 3, 3, 0), 2},
		{"ac ad bc", list(0, 2, 1, 3), list(-1, 2, 0, 0), 2},
		{"ac ce be bd", list(0, 2, 4, 1, 3), list(-1, 4, 0, 1, 2), 2},
		{"ab bc cd ad", list(0, 1, 2, 3), list(-1, 0, 1, 2), 3},
		{"ab ac ad bc bd cd", list(0, 1, 2, 3), list(-1, 0, 1, 2), 4},
		{"abc bcd acd abd", list(0, 1, 2, 3), list(-1, 0, 1, 2), 4},
		{"ab bc cd de ef af", list(0, 1, 2, 3, 4, 5), list(-1, 0, 1, 2, 3, 4), 3},
		{"ad bd be ce cf af", list(0, 1, 2, 3, 4, 5), list(-1, 0, 1, 1, 2, 2), 3},
		{"ab bc cd ad a d", list(0, 1, 2, 3), list(-1, 0, 1, 2), 3},
		{"ae be ce de", list(0, 4, 1, 2, 3), list(-1, 4, 4, 4, 0), 2},
		{"abcdefghijkl", list(0, 1, 2, 3, 4, 5, 6, 7, 8, 9, 10, 11), list(-1, 0, 1, 2, 3, 4, 5, 6, 7, 8, 9, 10), 12},
		{"a bcdefghijkl", list(0, 1, 2, 3, 4, 5, 6, 7, 8, 9, 10, 11), list(-1, -1, 1, 2, 3, 4, 5, 6, 7, 8, 9, 10), 11},
		{"ab cd ef gh ij kl", list(0, 1, 2, 3, 4, 5, 6, 7, 8, 9, 10, 11), list(-1, 0, -1, 2, -1, 4, -1, 6, -1, 8, -1, 10), 2},
		{"abg bch cdi dej efk afl", list(0, 1, 2, 3, 4, 5, 6, 7, 8, 9, 10, 11), list(-1, 0, 1, 2, 3, 4, 1, 2, 3, 4, 5, 5), 3},
	} {
		isLeast(t, parsed(x.relations), x.permutation, x.parent, x.width)
	}
}

// firstLeast returns the least permutation whose order has the least Width, and this Width: it looks at all of them.
func firstLeast(t *testing.T, s api.Schema) ([]int, int) {
	var best []int
	least := greatest
	permutations(len(s.Attributes), func(l []int) {
		o, e := order.Of(s, l)
		width, f := order.Width(s, o)
		if e != api.OK || f != api.OK {
			t.Errorf("Of %v for %s: %d, %d", l, name(s), e, f)
		}
		if width < least {
			best, least = slices.Clone(l), width
		}
	})
	return best, least
}

func TestLeastOfAllPermutations(t *testing.T) {
	schemas := slices.Concat(every(1, 3), every(2, 3), every(3, 3), every(4, 2), every(4, 3), every(3, 4))
	r := rand.New(rand.NewSource(10))
	for _, x := range []struct{ attributes, many int }{{5, 300}, {6, 60}, {7, 10}, {8, 1}} {
		for range x.many {
			schemas = append(schemas, sparse(r, x.attributes), pseudoRandom(r, x.attributes))
		}
	}
	for _, s := range schemas {
		permutation, width := firstLeast(t, s)
		isLeast(t, s, permutation, textbookOf(s).of(permutation), width)
	}
}

// TestLeastTextbook goes through schemas up to the limits.
func TestLeastTextbook(t *testing.T) {
	r := rand.New(rand.NewSource(11))
	widths := map[int]int{}
	for i := range 900 {
		n := api.MaxAttributes - r.Intn(9)
		s := sparse(r, n)
		if i%3 == 0 {
			s = pseudoRandom(r, n)
		}
		b := textbookOf(s)
		permutation, width := b.least()
		isLeast(t, s, permutation, b.of(permutation), width)
		widths[width]++
		simple := !slices.ContainsFunc(s.Relations, func(x api.Relation) bool { return len(x.Attributes) > 1 })
		same(t, "the width 1 for "+name(s), width == 1, simple)
	}
	for width := 2; width <= 6; width++ {
		if widths[width] < 30 {
			t.Errorf("only %d schemas of the width %d", widths[width], width)
		}
	}
}

// TestNoLesserOrder goes through all right orders: none has a lesser Width than Least, whether it is the order of a permutation or not.
func TestNoLesserOrder(t *testing.T) {
	schemas := slices.Concat(every(3, 2), every(3, 3), every(4, 1))
	r := rand.New(rand.NewSource(12))
	for range 30 {
		schemas = append(schemas, sparse(r, 4), pseudoRandom(r, 4))
	}
	for range 4 {
		schemas = append(schemas, sparse(r, 5))
	}
	for _, s := range schemas {
		o, _, _ := order.Least(s)
		least, _ := order.Width(s, o)
		n, lesser := len(s.Attributes), false
		lists(n, -1, n-1, func(parent []int) {
			width, e := order.Width(s, api.Order{Parent: parent})
			lesser = lesser || e == api.OK && width < least
		})
		same(t, fmt.Sprint("a width less than ", least, " for ", name(s)), lesser, false)
		simple := !slices.ContainsFunc(s.Relations, func(x api.Relation) bool { return len(x.Attributes) > 1 })
		same(t, "the width 1 for "+name(s), least == 1, simple)
	}
}
