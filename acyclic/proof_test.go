package acyclic_test

import (
	"fmt"
	"math/rand"
	"slices"
	"testing"

	"joinlearn/acyclic"
	"joinlearn/api"
)

// checks compares Check with what is expected.
func checks(t *testing.T, s api.Schema, parent []int, want bool) {
	t.Helper()
	if acyclic.Check(s, api.JoinTree{Parent: parent}) != want {
		t.Errorf("Check of %v for %s: not %v", parent, name(s), want)
	}
}

func TestCheck(t *testing.T) {
	for _, x := range []struct {
		relations string
		parent    []int
		want      bool
	}{
		{"ab bc cd", list(1, 2, -1), true},
		{"ab bc cd", list(1, -1, 1), true},
		{"ab bc cd", list(-1, 0, 1), true},
		{"ab bc cd", list(2, -1, 1), false},
		{"ab bc cd", list(-1, 0, 0), false},
		{"ab bc cd", list(2, 2, -1), false},
		{"ab bc cd", list(1, -1, -1), false},
		{"ab bc cd", list(-1, -1, -1), false},
		{"ab bc cd", list(1, 2, 0), false},
		{"ab bc cd", list(1, 0, -1), false},
		{"ab bc cd", list(1, 2, 2), false},
		{"ab bc cd", list(1, 1, -1), false},
		{"ab bc cd", list(1, 2), false},
		{"ab bc cd", list(1, -1), false},
		{"ab bc cd", list(1, 2, 3, -1), false},
		{"ab bc cd", list(1, 2, -1, 0), false},
		{"ab bc cd", list(1, 2, -1, -1), false},
		{"ab bc cd", nil, false},
		{"ab bc cd", list(1, 2, -2), false},
		{"ab bc cd", list(1, 2, 3), false},
		{"ab bc cd", list(1, 3, -1), false},
		{"ab bc cd", list(-2, 2, -1), false},
		{"ab bc cd", list(greatest, 2, -1), false},
		{"ab bc cd", list(smallest, 2, -1), false},
		{"ab bc cd", list(1, 2, smallest), false},
		{"ab bc cd", make([]int, 1<<20), false},
		{"ab bc ac", list(1, 2, -1), false},
		{"ab bc ac", list(-1, 0, 0), false},
		{"ab bc ac", list(-1, 0, 1), false},
		{"ab", list(-1), true},
		{"ab", list(0), false},
		{"ab", list(1), false},
		{"ab", nil, false},
		{"ab", list(-1, 0), false},
		{"a b", list(-1, 0), true},
		{"a b", list(1, -1), true},
		{"a b", list(-1, -1), false},
		{"a b", list(1, 0), false},
		{"a b", list(0, -1), false},
		{"a b", list(0, 1), false},
		{"a b c", list(1, 0, -1), false},
		{"a b c d", list(1, 0, -1, 2), false},
		{"a b c d", list(1, 2, 0, -1), false},
		{"a b c d", list(-1, 2, 3, 1), false},
		{"a b c d", list(3, 0, 1, -1), true},
		{"a b c d e f", list(5, 0, 1, 2, 3, -1), true},
		{"a b c d e f", list(-1, 0, 1, 2, 3, 4), true},
		{"a b c d e f", list(5, 0, 1, 2, 3, 4), false},
		{"a b c d e f", list(5, 0, 1, 2, 5, -1), true},
		{"ab ab ab", list(-1, 0, 0), true},
		{"ab ab ab", list(1, 2, -1), true},
		{"ab c ab", list(1, 2, -1), false},
		{"ab c ab", list(2, 2, -1), true},
		{"ab c ab", list(2, 0, -1), true},
		{"ab c ab", list(1, -1, 1), false},
		{"abc ab bc ac", list(-1, 0, 0, 0), true},
		{"abc ab bc ac", list(1, -1, 0, 0), true},
		{"abc ab bc ac", list(1, -1, 1, 0), false},
		{"abc ab bc ac", list(1, -1, 0, 2), false},
		{"ab bc cd ad ac", list(-1, 0, 1, 2, 0), false},
	} {
		checks(t, parsed(x.relations), x.parent, x.want)
	}
}

// right reports whether a tree is right: it looks for circles and for connections by colouring.
func (b textbook) right(parent []int) bool {
	roots := 0
	for _, p := range parent {
		if p < -1 || p >= len(b) {
			return false
		}
		if p == -1 {
			roots++
		}
	}
	if roots != 1 || len(parent) != len(b) || len(coloured(parent, 1<<len(b)-1)) != 1 {
		return false
	}
	for a := range api.MaxAttributes {
		uses := 0
		for r, set := range b {
			if set&(1<<a) != 0 {
				uses |= 1 << r
			}
		}
		if uses != 0 && len(coloured(parent, uses)) != 1 {
			return false
		}
	}
	return true
}

// coloured gives relations of a set one colour if one of them hangs on the other one, and returns the colours.
func coloured(parent []int, set int) map[int]bool {
	colour := make([]int, len(parent))
	for r := range colour {
		colour[r] = r
	}
	for range parent {
		for _, r := range elements(set) {
			if p := parent[r]; p >= 0 && set&(1<<p) != 0 {
				colour[r] = min(colour[r], colour[p])
				colour[p] = colour[r]
			}
		}
	}
	colours := map[int]bool{}
	for _, r := range elements(set) {
		colours[colour[r]] = true
	}
	return colours
}

// lists calls with all lists of so many numbers from low to high.
func lists(length, low, high int, call func(l []int)) {
	l := make([]int, length)
	var fill func(i int)
	fill = func(i int) {
		if i == length {
			call(l)
			return
		}
		for x := low; x <= high; x++ {
			l[i] = x
			fill(i + 1)
		}
	}
	fill(0)
}

// TestCheckTextbook goes through all Parents of small schemas: some of them are right exactly if Acyclic holds.
func TestCheckTextbook(t *testing.T) {
	for _, s := range slices.Concat(every(1, 1), every(2, 2), every(3, 2), every(3, 3), every(4, 2)) {
		b, some := textbookOf(s), false
		lists(len(b), -2, len(b), func(parent []int) {
			want := b.right(parent)
			some = some || want
			checks(t, s, parent, want)
		})
		same(t, "Acyclic of "+name(s), acyclic.Acyclic(s), some)
	}
}

// TestCheckOfGreatSchemas goes through trees that are pseudo-random, those of Tree, and those with a fault.
func TestCheckOfGreatSchemas(t *testing.T) {
	r := rand.New(rand.NewSource(9))
	right := 0
	for range 3000 {
		s := pseudoRandom(r)
		b := textbookOf(s)
		parent := make([]int, len(b))
		if tree, found := acyclic.Tree(s); found && r.Intn(2) == 0 {
			checks(t, s, tree.Parent, true)
			copy(parent, tree.Parent)
			parent[r.Intn(len(b))] = r.Intn(len(b)+2) - 1
		} else {
			places := r.Perm(len(b))
			parent[places[0]] = -1
			for i := 1; i < len(places); i++ {
				parent[places[i]] = places[r.Intn(i)]
			}
		}
		want := b.right(parent)
		if want && len(b) > 2 {
			right++
		}
		checks(t, s, parent, want)
	}
	if right < 100 {
		t.Errorf("only %d trees are right", right)
	}
}

func closes(t *testing.T, s api.Schema, order, core []int, want bool) {
	t.Helper()
	if acyclic.Closed(s, order, core) != want {
		t.Errorf("Closed of %v, %v for %s: not %v", order, core, name(s), want)
	}
}

func TestClosed(t *testing.T) {
	for _, x := range []struct {
		relations   string
		order, core []int
		want        bool
	}{
		{"ab bc ac", nil, list(0, 1, 2), true},
		{"ab bc ac", list(), list(0, 1, 2), true},
		{"ab bc ac", nil, list(0, 2, 1), false},
		{"ab bc ac", nil, list(2, 1, 0), false},
		{"ab bc ac", nil, list(0, 1), false},
		{"ab bc ac", nil, list(0, 1, 2, 2), false},
		{"ab bc ac", nil, list(0, 1, 2, 3), false},
		{"ab bc ac", nil, list(-1, 0, 1, 2), false},
		{"ab bc ac", nil, list(0, 1, 1), false},
		{"ab bc ac", nil, list(0, 1, 3), false},
		{"ab bc ac", nil, nil, false},
		{"ab bc ac", list(0), list(1, 2), false},
		{"ab bc ac", list(0), list(0, 1, 2), false},
		{"ab bc ac", list(3), list(0, 1, 2), false},
		{"ab bc ac", list(-1), list(0, 1, 2), false},
		{"ab bc ac cd", list(3), list(0, 1, 2), true},
		{"ab bc ac cd", nil, list(0, 1, 2, 3), false},
		{"ab bc ac cd", nil, list(0, 1, 2), false},
		{"ab bc ac cd", list(3, 3), list(0, 1, 2), false},
		{"ab bc ac cd", list(3, 0), list(1, 2), false},
		{"ab bc ac cd", list(3), list(0, 1, 2, 3), false},
		{"ab bc ac cd", list(3), list(0, 1), false},
		{"ab bc ac cd", list(3), list(3, 1, 2), false},
		{"ab bc ac cd", list(0), list(1, 2, 3), false},
		{"ab bc ac cd", list(4), list(0, 1, 2), false},
		{"ab bc ac cd", list(-1), list(0, 1, 2), false},
		{"ab bc ac cd", list(greatest), list(0, 1, 2), false},
		{"ab bc ac cd", list(smallest), list(0, 1, 2), false},
		{"ab bc ac cd", list(3), list(0, 1, greatest), false},
		{"ab bc ac cd", list(3), list(smallest, 1, 2), false},
		{"ab bc ac cd de", list(4, 3), list(0, 1, 2), true},
		{"ab bc ac cd de", list(3, 4), list(0, 1, 2), false},
		{"ab bc ac cd de", list(4), list(0, 1, 2, 3), false},
		{"ab bc ac ad be", list(3, 4), list(0, 1, 2), true},
		{"ab bc ac ad be", list(4, 3), list(0, 1, 2), true},
		{"ab bc ac ab", list(0), list(1, 2, 3), true},
		{"ab bc ac ab", list(3), list(0, 1, 2), true},
		{"ab bc ac ab", list(0, 3), list(1, 2), false},
		{"ab bc ac d", list(3), list(0, 1, 2), true},
		{"ab bc ac d", nil, list(0, 1, 2, 3), false},
		{"ab bc cd", list(0, 1), list(2), false},
		{"ab bc cd", list(0, 2), list(1), false},
		{"ab bc cd", list(0), list(1, 2), false},
		{"ab bc cd", list(0, 1, 2), nil, false},
		{"ab bc cd", nil, list(0, 1, 2), false},
		{"ab", nil, list(0), false},
		{"ab", list(0), nil, false},
		{"ab", nil, nil, false},
		{"ab", nil, list(0, 0), false},
		{"ab", list(0), list(0, 1), false},
		{"ab bc cd ad", nil, list(0, 1, 2, 3), true},
		{"ab bc cd de ef af", nil, list(0, 1, 2, 3, 4, 5), true},
		{"ab bc cd de ae ef", list(5), list(0, 1, 2, 3, 4), true},
		{"ab bc ac", make([]int, 1<<20), list(0, 1, 2), false},
		{"ab bc ac", nil, make([]int, 1<<20), false},
		{"ab bc ac", slices.Repeat(list(-1), 1<<20), list(0, 1, 2), false},
	} {
		closes(t, parsed(x.relations), x.order, x.core, x.want)
	}
}

// closed is Closed as it is defined.
func (b textbook) closed(order, core []int) bool {
	left := 1<<len(b) - 1
	for _, r := range order {
		if len(b.witnesses(left, r)) == 0 {
			return false
		}
		left &^= 1 << r
	}
	return len(core) >= 2 && slices.Equal(core, elements(left)) && len(b.ears(left)) == 0
}

// TestClosedTextbook goes through all orders and cores of some schemas.
func TestClosedTextbook(t *testing.T) {
	for _, relations := range []string{"ab bc ac", "ab bc cd", "a b c", "ab ab ab", "a b", "ab", "abc cd ad"} {
		s := parsed(relations)
		b := textbookOf(s)
		for i := range 4 {
			lists(i, -1, 3, func(order []int) {
				for k := range 5 {
					lists(k, -1, 3, func(core []int) { closes(t, s, order, core, b.closed(order, core)) })
				}
			})
		}
	}
}

// TestClosedOfSubsets goes through all orders of small schemas with all sets as core, which prove something only if there is no tree.
func TestClosedOfSubsets(t *testing.T) {
	r := rand.New(rand.NewSource(10))
	schemas := every(3, 3)
	for _, relations := range []string{"ab bc ac cd", "cd ab bc ac", "ab ab bc ac", "ab bc ac d", "ab bc cd ad", "ab bc cd de", "ab bc ac abc"} {
		schemas = append(schemas, parsed(relations))
	}
	for range 30 {
		if s := pseudoRandom(r); len(s.Relations) < 5 {
			schemas = append(schemas, s)
		}
	}
	for _, s := range schemas {
		b, proofs := textbookOf(s), 0
		for i := range len(b) + 1 {
			lists(i, 0, len(b)-1, func(order []int) {
				for set := range 1 << len(b) {
					core := elements(set)
					want := b.closed(order, core)
					if want {
						proofs++
					}
					closes(t, s, order, core, want)
				}
			})
		}
		same(t, "Acyclic of "+name(s), acyclic.Acyclic(s), proofs == 0)
	}
}

// TestCertificates checks that each schema has either a join tree that is right or a proof that there is none.
func TestCertificates(t *testing.T) {
	for _, s := range samples() {
		tree, found := acyclic.Tree(s)
		order, core := acyclic.Reduce(s)
		checks(t, s, tree.Parent, found)
		closes(t, s, order, core, !found)
		same(t, fmt.Sprint("one left of ", name(s)), len(core) == 1, found)
	}
}
