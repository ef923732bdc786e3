package order_test

import (
	"fmt"
	"math/rand"
	"slices"
	"testing"

	"joinlearn/api"
	"joinlearn/order"
	"joinlearn/schema"
)

// beyond are numbers that are neither attributes nor relations of any schema.
func beyond(n int) []int {
	return list(-2, n, n+1, 31, 32, 63, 64, 65, 128, -64, greatest, smallest)
}

// nothing checks that no function says anything of an order for which Check returns this error.
func nothing(t *testing.T, title string, s api.Schema, parent []int, want api.Errno) {
	t.Helper()
	o := api.Order{Parent: parent}
	if e := order.Check(s, o); e != want {
		t.Errorf("Check, %s: %d, not %d", title, e, want)
	}
	if width, e := order.Width(s, o); width != 0 || e != want {
		t.Errorf("Width, %s: %d, %d, not %d", title, width, e, want)
	}
	silent := len(order.Walk(s, o)) == 0
	for x := -1; x <= len(s.Attributes) && silent; x++ {
		silent = len(order.Key(s, o, x)) == 0 && len(order.Below(s, o, x)) == 0 && len(order.Children(s, o, x)) == 0
	}
	for r := -1; r <= len(s.Relations) && silent; r++ {
		silent = order.Home(s, o, r) == -1
	}
	if !silent {
		t.Errorf("%s: something is said of an order with the error %d", title, want)
	}
}

// equal compares lists.
func equal(t *testing.T, title string, got, want []int) {
	t.Helper()
	if !slices.Equal(got, want) {
		t.Errorf("%s: %v, not %v", title, got, want)
	}
}

// matches compares all that is said of an order with the definitions.
func matches(t *testing.T, s api.Schema, b textbook, parent []int) {
	t.Helper()
	title := fmt.Sprint(parent, " for ", name(s))
	if e := b.checked(parent); e != api.OK {
		nothing(t, title, s, parent, e)
		return
	}
	o := api.Order{Parent: parent}
	if e := order.Check(s, o); e != api.OK {
		t.Errorf("Check of %s: %d", title, e)
	}
	for v := range parent {
		equal(t, fmt.Sprint("Key of ", v, " of ", title), order.Key(s, o, v), b.key(parent, v))
		equal(t, fmt.Sprint("Below ", v, " of ", title), order.Below(s, o, v), below(parent, v))
	}
	for v := -1; v < len(parent); v++ {
		equal(t, fmt.Sprint("Children of ", v, " of ", title), order.Children(s, o, v), children(parent, v))
	}
	for r := range s.Relations {
		home, want := order.Home(s, o, r), b.home(parent, r)
		if home != want || want < 0 {
			t.Errorf("Home of %d of %s: %d, not %d", r, title, home, want)
		}
		if outside := append(order.Key(s, o, home), home); slices.ContainsFunc(s.Relations[r].Attributes, func(a int) bool { return !slices.Contains(outside, a) }) {
			t.Errorf("relation %d of %s has more than %v", r, title, outside)
		}
	}
	equal(t, "Walk of "+title, order.Walk(s, o), walked(parent))
	if width, e := order.Width(s, o); width != b.width(parent) || e != api.OK {
		t.Errorf("Width of %s: %d, %d, not %d", title, width, e, b.width(parent))
	}
}

func TestOrders(t *testing.T) {
	for _, x := range []struct {
		relations             string
		parent                []int
		keys, below, children []string // children: those of -1 first
		homes, walk           string
		width                 int
	}{
		{"ab bc", list(1, -1, 1), []string{"b", "", "b"}, []string{"a", "abc", "c"}, []string{"b", "", "ac", ""}, "ac", "bac", 2},
		{"ab bc", list(-1, 0, 1), []string{"", "a", "b"}, []string{"abc", "bc", "c"}, []string{"a", "b", "c", ""}, "bc", "abc", 2},
		{"ab bc", list(-1, 2, 0), []string{"", "ac", "a"}, []string{"abc", "b", "bc"}, []string{"a", "c", "", "b"}, "bb", "acb", 3},
		{"ab bc", list(1, 2, -1), []string{"b", "c", ""}, []string{"a", "ab", "abc"}, []string{"c", "", "a", "b"}, "ab", "cba", 2},
		{"ab bc ac", list(-1, 0, 1), []string{"", "a", "ab"}, []string{"abc", "bc", "c"}, []string{"a", "b", "c", ""}, "bcc", "abc", 3},
		{"ab bc ac", list(2, 0, -1), []string{"c", "ac", ""}, []string{"ab", "b", "abc"}, []string{"c", "b", "", "a"}, "bba", "cab", 3},
		{"a", list(-1), []string{""}, []string{"a"}, []string{"a", ""}, "a", "a", 1},
		{"a a a a a a", list(-1), []string{""}, []string{"a"}, []string{"a", ""}, "aaaaaa", "a", 1},
		{"a b", list(-1, -1), []string{"", ""}, []string{"a", "b"}, []string{"ab", "", ""}, "ab", "ab", 1},
		{"a b", list(-1, 0), []string{"", ""}, []string{"ab", "b"}, []string{"a", "b", ""}, "ab", "ab", 1},
		{"a b", list(1, -1), []string{"", ""}, []string{"a", "ab"}, []string{"b", "", "a"}, "ab", "ba", 1},
		{"b a c", list(2, 0, -1), []string{"", "", ""}, []string{"ab", "b", "abc"}, []string{"c", "b", "", "a"}, "bac", "cab", 1},
		{"ad bd cd", list(3, 3, 3, -1), []string{"d", "d", "d", ""}, []string{"a", "b", "c", "abcd"}, []string{"d", "", "", "", "abc"}, "abc", "dabc", 2},
		{"ad bd cd", list(-1, 0, 1, 2), []string{"", "a", "ab", "abc"}, []string{"abcd", "bcd", "cd", "d"}, []string{"a", "b", "c", "d", ""}, "ddd", "abcd", 4},
		{"ab ac bd", list(-1, 0, 0, 1), []string{"", "a", "a", "b"}, []string{"abcd", "bd", "c", "d"}, []string{"a", "bc", "d", "", ""}, "bcd", "abdc", 2},
		{"cd ab", list(1, -1, -1, 2), []string{"b", "", "", "c"}, []string{"a", "ab", "cd", "d"}, []string{"bc", "", "a", "d", ""}, "da", "bacd", 2},
		{"cd ab", list(1, 3, -1, 2), []string{"b", "", "", "c"}, []string{"a", "ab", "abcd", "abd"}, []string{"c", "", "a", "d", "b"}, "da", "cdba", 2},
		{"abcd", list(2, 0, 3, -1), []string{"cd", "acd", "d", ""}, []string{"ab", "b", "abc", "abcd"}, []string{"d", "b", "", "a", "c"}, "b", "dcab", 4},
		{"ace bd", list(-1, 0, 0, 1, 2), []string{"", "", "a", "b", "ac"}, []string{"abcde", "bd", "ce", "d", "e"}, []string{"a", "bc", "d", "e", "", ""}, "ed", "abdce", 3},
		{"ac", list(-1, 0, 1), nil, nil, nil, "", "", 0},
	} {
		s, o := parsed(x.relations), api.Order{Parent: x.parent}
		title := fmt.Sprint(x.parent, " for ", x.relations)
		for v, want := range x.keys {
			same(t, fmt.Sprint("Key of ", v, " of ", title), letters(order.Key(s, o, v)), want)
		}
		for v, want := range x.below {
			same(t, fmt.Sprint("Below ", v, " of ", title), letters(order.Below(s, o, v)), want)
		}
		for i, want := range x.children {
			same(t, fmt.Sprint("Children of ", i-1, " of ", title), letters(order.Children(s, o, i-1)), want)
		}
		for r, home := range x.homes {
			same(t, fmt.Sprint("Home of ", r, " of ", title), order.Home(s, o, r), int(home-'a'))
		}
		same(t, "Walk of "+title, letters(order.Walk(s, o)), x.walk)
		width, _ := order.Width(s, o)
		same(t, "Width of "+title, width, x.width)
	}
}

func TestCheck(t *testing.T) {
	for _, x := range []struct {
		relations string
		parent    []int
		want      api.Errno
	}{
		{"ab bc", list(1, -1, 1), api.OK},
		{"ab bc", list(-1, 0, 1), api.OK},
		{"ab bc", list(1, 2, -1), api.OK},
		{"ab bc", list(2, 0, -1), api.OK},
		{"ab bc", list(2, -1, 1), api.OK},
		{"ab bc", nil, api.ErrShape},
		{"ab bc", list(), api.ErrShape},
		{"ab bc", list(1, -1), api.ErrShape},
		{"ab bc", list(1, -1, 1, 1), api.ErrShape},
		{"ab bc", list(1, -1, 1, -1), api.ErrShape},
		{"ab bc", list(9, -9), api.ErrShape},
		{"ab bc", list(0, 0, 0, 9), api.ErrShape},
		{"ab bc", make([]int, 1<<20), api.ErrShape},
		{"ab bc", list(1, -1, 3), api.ErrRange},
		{"ab bc", list(3, -1, 1), api.ErrRange},
		{"ab bc", list(1, -2, 1), api.ErrRange},
		{"ab bc", list(-2, 0, 1), api.ErrRange},
		{"ab bc", list(1, -1, greatest), api.ErrRange},
		{"ab bc", list(smallest, -1, 1), api.ErrRange},
		{"ab bc", list(1, 0, 3), api.ErrRange},
		{"ab bc", list(0, 0, -2), api.ErrRange},
		{"ab bc", list(-1, -1, 3), api.ErrRange},
		{"ab bc", list(0, -1, 1), api.ErrCycle},
		{"ab bc", list(1, 1, 1), api.ErrCycle},
		{"ab bc", list(1, -1, 2), api.ErrCycle},
		{"ab bc", list(1, 0, -1), api.ErrCycle},
		{"ab bc", list(-1, 2, 1), api.ErrCycle},
		{"ab bc", list(1, 2, 0), api.ErrCycle},
		{"ab bc", list(2, 0, 1), api.ErrCycle},
		{"ab bc", list(-1, -1, -1), api.ErrCycle},
		{"ab bc", list(-1, 0, 0), api.ErrCycle},
		{"ab bc", list(-1, -1, 1), api.ErrCycle},
		{"ab bc", list(1, -1, -1), api.ErrCycle},
		{"ab bc", list(2, 2, -1), api.ErrCycle},
		{"ab bc ac", list(-1, 0, 1), api.OK},
		{"ab bc ac", list(1, -1, 1), api.ErrCycle},
		{"ab bc ac", list(-1, 0, 0), api.ErrCycle},
		{"abc", list(1, -1, 1), api.ErrCycle},
		{"abc", list(1, -1, 0), api.OK},
		{"a", list(-1), api.OK},
		{"a", list(0), api.ErrCycle},
		{"a", list(1), api.ErrRange},
		{"a", list(-2), api.ErrRange},
		{"a", nil, api.ErrShape},
		{"a", list(-1, -1), api.ErrShape},
		{"a b", list(-1, -1), api.OK},
		{"a b", list(1, -1), api.OK},
		{"a b", list(1, 0), api.ErrCycle},
		{"a b", list(-1, 1), api.ErrCycle},
		{"ab cd", list(-1, 0, -1, 2), api.OK},
		{"ab cd", list(-1, 0, 1, 2), api.OK},
		{"ab cd", list(-1, 2, 0, 1), api.OK},
		{"ab cd", list(-1, 0, 3, 2), api.ErrCycle},
		{"ab cd", list(-1, 0, 1, 1), api.ErrCycle},
		{"ab cd", list(-1, 0, 0, 0), api.ErrCycle},
		{"abcdefghijkl", list(-1, 0, 1, 2, 3, 4, 5, 6, 7, 8, 9, 10), api.OK},
		{"abcdefghijkl", list(1, 2, 3, 4, 5, 6, 7, 8, 9, 10, 11, -1), api.OK},
		{"abcdefghijkl", list(1, 2, 3, 4, 5, 6, 7, 8, 9, 10, 11, 0), api.ErrCycle},
		{"abcdefghijkl", list(1, 2, 3, 4, 5, 6, 7, 8, 9, 10, 11, 12), api.ErrRange},
		{"abcdefghijkl", list(-1, 0, 1, 2, 3, 4, 5, 6, 7, 8, 9, 9), api.ErrCycle},
		{"abcdefghijkl", list(-1, 0, 1, 2, 3, 4, 5, 6, 7, 8, 9), api.ErrShape},
		{"abcdefghijkl", list(-1, 0, 1, 2, 3, 4, 5, 6, 7, 8, 9, 10, 11), api.ErrShape},
	} {
		s := parsed(x.relations)
		same(t, fmt.Sprint("the error of ", x.parent[:min(len(x.parent), 20)], " for ", x.relations), order.Check(s, api.Order{Parent: x.parent}), x.want)
		if x.want != api.OK {
			nothing(t, x.relations, s, x.parent, x.want)
		}
	}
}

// TestNoSuchVariable checks that nothing is said of what is not there.
func TestNoSuchVariable(t *testing.T) {
	for _, relations := range []string{"a", "ab bc", "a b c", "ab cd", "abcdefghijkl"} {
		s := parsed(relations)
		b := textbookOf(s)
		o, _, _ := order.Least(s)
		roots := children(o.Parent, -1)
		for _, x := range append(beyond(len(s.Attributes)), -1) {
			equal(t, fmt.Sprint("Key of ", x, " for ", relations), order.Key(s, o, x), nil)
			equal(t, fmt.Sprint("Below ", x, " for ", relations), order.Below(s, o, x), nil)
			if x != -1 {
				equal(t, fmt.Sprint("Children of ", x, " for ", relations), order.Children(s, o, x), nil)
			}
		}
		for _, x := range append(beyond(len(s.Relations)), -1) {
			same(t, fmt.Sprint("Home of ", x, " for ", relations), order.Home(s, o, x), -1)
		}
		equal(t, "the roots for "+relations, order.Children(s, o, -1), roots)
		matches(t, s, b, o.Parent)
	}
}

// TestAllParents goes through all lists of Parents for small schemas.
func TestAllParents(t *testing.T) {
	schemas := slices.Concat(every(1, 1), every(1, 2), every(2, 1), every(2, 2), every(3, 1), every(3, 2), every(3, 3), every(4, 1))
	for _, relations := range []string{"ab bc cd", "ab cd", "ad bd cd", "ab bc cd ad", "ab bc ac d", "abc cd", "a b c d", "ac bd", "acd b", "bd ab ad bc"} {
		schemas = append(schemas, parsed(relations))
	}
	for _, s := range schemas {
		b, n := textbookOf(s), len(s.Attributes)
		for length := range n + 2 {
			if length == n {
				lists(n, -2, n, func(parent []int) { matches(t, s, b, parent) })
			} else {
				nothing(t, fmt.Sprint(length, " Parents for ", name(s)), s, slices.Repeat(list(-1), length), api.ErrShape)
			}
		}
	}
}

// TestGreatOrders looks at orders of great schemas: those of permutations for the schema or one whose relations have more attributes, ways without branches, and those with one Parent that is another one.
func TestGreatOrders(t *testing.T) {
	r := rand.New(rand.NewSource(8))
	right, wrong := 0, 0
	for range 3000 {
		n := 1 + r.Intn(api.MaxAttributes)
		s := pseudoRandom(r, n)
		wider := s
		if r.Intn(2) == 0 {
			wider.Relations = slices.Clone(s.Relations)
			for i := range wider.Relations {
				wider.Relations[i].Attributes = which(n, func(a int) bool {
					return slices.Contains(s.Relations[i].Attributes, a) || r.Intn(2*n) == 0
				})
			}
		}
		parent := textbookOf(wider).of(r.Perm(n))
		if r.Intn(8) == 0 {
			places := r.Perm(n)
			for i, v := range places {
				parent[v] = append(list(-1), places...)[i]
			}
		}
		b := textbookOf(s)
		matches(t, s, b, parent)
		same(t, fmt.Sprint("the error of ", parent, " for ", name(s)), order.Check(s, api.Order{Parent: parent}), api.OK)
		parent[r.Intn(n)] = r.Intn(n+1) - 1
		matches(t, s, b, parent)
		if b.checked(parent) == api.OK {
			right++
		} else {
			wrong++
		}
	}
	if right < 500 || wrong < 500 {
		t.Errorf("%d right orders and %d others are too few", right, wrong)
	}
}

// TestInvalidSchemas checks that the error of a schema comes first, whatever the order and the permutation are.
func TestInvalidSchemas(t *testing.T) {
	for title, s := range invalids() {
		want := schema.Check(s)
		if want == api.OK {
			t.Errorf("%s is valid", title)
		}
		for _, parent := range [][]int{nil, list(-1), list(-1, 0, 1), list(1, 0, -1), list(-1, 0, 1, 2), list(7, 0, 1, 2), list(1, 0, 1, 2), slices.Repeat(list(-1), 13), slices.Repeat(list(-1), 100)} {
			nothing(t, title, s, parent, want)
			for _, v := range beyond(13) {
				equal(t, "Children, "+title, order.Children(s, api.Order{Parent: parent}, v), nil)
			}
		}
		for _, permutation := range [][]int{nil, list(0), list(0, 1, 2), list(0, 1, 2, 3), list(9, 9, 9, 9), list(0, 0, 0, 0), which(13, func(int) bool { return true }), which(100, func(int) bool { return true })} {
			refuses(t, s, permutation, want)
		}
		o, permutation, e := order.Least(s)
		same(t, "Least, "+title, o, api.Order{})
		same(t, "permutation of Least, "+title, permutation, list())
		same(t, "error of Least, "+title, e, want)
	}
}

// TestFeaturesAndLabel checks that features, labels, kinds and names make no difference.
func TestFeaturesAndLabel(t *testing.T) {
	s := parsed("ab bc cd")
	for a := range s.Attributes {
		s.Attributes[a].Kind = 1 + (a+1)%3
	}
	s.Label = 0
	s.Features = []api.Feature{{Attribute: 1, Kind: api.FeatureOneHot}, {Attribute: 3, Kind: api.FeatureNumber, Missing: api.MissingDrop}}
	s.Relations[0].Name, s.Relations[2].Name = "z", "a"
	same(t, "the schema", schema.Check(s), api.OK)
	matches(t, s, textbookOf(s), list(1, -1, 1, 2))
	hangs(t, s, list(1, 0, 2, 3), list(1, -1, 1, 2))
	isLeast(t, s, list(0, 1, 2, 3), list(-1, 0, 1, 2), 2)
}

// TestArguments checks that no function changes its arguments, and that nothing that is written into a result is seen by the next call.
func TestArguments(t *testing.T) {
	s, parent, permutation := parsed("ab bc cd"), list(1, -1, 1, 2), list(3, 1, 0, 2)
	calls := func() string {
		o := api.Order{Parent: parent}
		of, e := order.Of(s, permutation)
		least, first, _ := order.Least(s)
		width, _ := order.Width(s, o)
		results := [][]int{of.Parent, least.Parent, first, order.Walk(s, o), order.Children(s, o, -1), order.Children(s, o, 1), order.Key(s, o, 3), order.Below(s, o, 2)}
		said := fmt.Sprint(results, e, width, order.Check(s, o), order.Home(s, o, 1))
		for _, l := range results {
			for i := range l {
				l[i] = -7
			}
			_ = append(l, -7)
		}
		return said
	}
	before := calls()
	same(t, "the first calls", before, "[[1 3 1 -1] [-1 0 1 2] [0 1 2 3] [1 0 2 3] [1] [0 2] [2] [2 3]] 0 2 0 2")
	same(t, "the second calls", calls(), before)
	same(t, "the schema", s, parsed("ab bc cd"))
	same(t, "the Parents", parent, list(1, -1, 1, 2))
	same(t, "the permutation", permutation, list(3, 1, 0, 2))
}
