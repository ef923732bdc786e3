package acyclic_test

import (
	"fmt"
	"math/rand"
	"slices"
	"strings"
	"testing"

	"joinlearn/acyclic"
	"joinlearn/api"
	"joinlearn/schema"
)

const (
	greatest = int(^uint(0) >> 1)
	smallest = -greatest - 1
)

// text writes a result. nil and empty slices are the same.
func text(x any) string { return strings.ReplaceAll(fmt.Sprintf("%#v", x), "(nil)", "{}") }

// same compares a result with what is expected.
func same(t *testing.T, name string, got, want any) {
	t.Helper()
	if g, w := text(got), text(want); g != w {
		t.Errorf("%s: %s, not %s", name, g, w)
	}
}

// related returns a schema of attributes a, b, .. with relations, each of which is written as the names of its attributes.
func related(attributes int, relations ...string) api.Schema {
	s := api.Schema{Label: -1}
	for i := range attributes {
		s.Attributes = append(s.Attributes, api.Attribute{Name: string(rune('a' + i)), Kind: api.KindCategory})
	}
	for i, names := range relations {
		relation := api.Relation{Name: fmt.Sprint("r", i)}
		for _, name := range names {
			relation.Attributes = append(relation.Attributes, int(name-'a'))
		}
		s.Relations = append(s.Relations, relation)
	}
	return s
}

// list returns a list of its arguments.
func list(l ...int) []int { return l }

// in returns the set of relations that is written with a digit for each one.
func in(digits string) []bool {
	var set []bool
	for _, d := range digits {
		set = append(set, d == '1')
	}
	return set
}

// name writes the relations of a schema.
func name(s api.Schema) string {
	var l []string
	for _, r := range s.Relations {
		var b strings.Builder
		for _, a := range r.Attributes {
			b.WriteByte(byte('a' + a))
		}
		l = append(l, b.String())
	}
	return strings.Join(l, " ")
}

// parsed reads a schema as name writes it.
func parsed(names string) api.Schema {
	most := 0
	for _, b := range names {
		most = max(most, int(b-'a')+1)
	}
	return related(most, strings.Fields(names)...)
}

// every returns all valid schemas with so many attributes and relations.
func every(attributes, relations int) []api.Schema {
	schemas := []api.Schema{related(attributes)}
	for i := range relations {
		var longer []api.Schema
		for _, s := range schemas {
			for set := 1; set < 1<<attributes; set++ {
				r := api.Relation{Name: fmt.Sprint("r", i), Attributes: elements(set)}
				longer = append(longer, api.Schema{Attributes: s.Attributes, Relations: append(slices.Clone(s.Relations), r), Label: -1})
			}
		}
		schemas = longer
	}
	return slices.DeleteFunc(schemas, func(s api.Schema) bool { return schema.Check(s) != api.OK })
}

// elements returns the elements of a set that is a number with a bit for each one.
func elements(set int) []int {
	var l []int
	for i := range 20 {
		if set&(1<<i) != 0 {
			l = append(l, i)
		}
	}
	return l
}

// pseudoRandom returns a valid schema whose relations are pseudo-random. With few attributes in each relation, about half of the schemas have a join tree.
func pseudoRandom(r *rand.Rand) api.Schema {
	for {
		s := related(1 + r.Intn(api.MaxAttributes))
		rare := 2 + r.Intn(5)
		for i := range 1 + r.Intn(api.MaxRelations) {
			relation := api.Relation{Name: fmt.Sprint("r", i)}
			for a := range s.Attributes {
				if r.Intn(rare) == 0 {
					relation.Attributes = append(relation.Attributes, a)
				}
			}
			s.Relations = append(s.Relations, relation)
		}
		if schema.Check(s) == api.OK {
			return s
		}
	}
}

// samples are all small schemas, and some great ones.
func samples() []api.Schema {
	l := slices.Concat(every(1, 1), every(1, 2), every(1, 6), every(2, 3), every(2, 4), every(3, 1), every(3, 2), every(3, 3), every(4, 3), every(3, 4))
	r := rand.New(rand.NewSource(7))
	for range 2000 {
		l = append(l, pseudoRandom(r))
	}
	return l
}

// A textbook does what the chapter says with sets that are numbers: one of attributes for each relation.
type textbook []int

func textbookOf(s api.Schema) textbook {
	var b textbook
	for _, r := range s.Relations {
		set := 0
		for _, a := range r.Attributes {
			set |= 1 << a
		}
		b = append(b, set)
	}
	return b
}

// witnesses returns all witnesses of a relation in a set of relations.
func (b textbook) witnesses(set, relation int) []int {
	if relation < 0 || set&(1<<relation) == 0 {
		return nil
	}
	shared := 0
	for _, r := range elements(set) {
		if r != relation {
			shared |= b[r] & b[relation]
		}
	}
	return slices.DeleteFunc(elements(set), func(r int) bool { return r == relation || shared&^b[r] != 0 })
}

func (b textbook) ears(set int) []int {
	return slices.DeleteFunc(elements(set), func(r int) bool { return len(b.witnesses(set, r)) == 0 })
}

// reduced returns what Reduce returns, and the Parents.
func (b textbook) reduced() (order, core, parent []int) {
	left := 1<<len(b) - 1
	parent = slices.Repeat(list(-1), len(b))
	for ears := b.ears(left); len(ears) > 0; ears = b.ears(left) {
		order = append(order, ears[0])
		parent[ears[0]] = b.witnesses(left, ears[0])[0]
		left &^= 1 << ears[0]
	}
	return order, elements(left), parent
}

// hasTree reports whether there is a join tree. There is one if the relations can be hung on one another such that as many attributes are shared along the branches as attributes occur again, and there are never more of them; the greatest number is that of the tree that takes the greatest branch first.
func (b textbook) hasTree() bool {
	occurs, all := 0, 0
	for _, set := range b {
		occurs += len(elements(set))
		all |= set
	}
	shared := 0
	inside := list(0)
	for len(inside) < len(b) {
		next, most := -1, -1
		for r := range b {
			for _, q := range inside {
				if n := len(elements(b[r] & b[q])); n > most && !slices.Contains(inside, r) {
					next, most = r, n
				}
			}
		}
		inside = append(inside, next)
		shared += most
	}
	return shared == occurs-len(elements(all))
}

func ears(t *testing.T, title string, s api.Schema, set []bool, relation, want int) {
	t.Helper()
	witness, found := acyclic.Ear(s, set, relation)
	same(t, "Ear, "+title, witness, want)
	same(t, "Ear, found, "+title, found, want >= 0)
}

func TestEar(t *testing.T) {
	for _, x := range []struct {
		relations, set string
		relation, want int
	}{
		{"ab bc cd", "111", 0, 1},
		{"ab bc cd", "111", 1, -1},
		{"ab bc cd", "111", 2, 1},
		{"ab bc cd", "011", 1, 2},
		{"ab bc cd", "110", 1, 0},
		{"ab bc cd", "101", 0, 2},
		{"ab bc cd", "101", 2, 0},
		{"ab bc ac", "111", 0, -1},
		{"ab bc ac", "111", 1, -1},
		{"ab bc ac", "111", 2, -1},
		{"ab bc ac", "110", 1, 0},
		{"ab bc ac", "101", 2, 0},
		{"ab bc ac abc", "1111", 0, 3},
		{"ab bc ac abc", "1111", 2, 3},
		{"ab bc ac abc", "1111", 3, -1},
		{"ab bc ac abc", "0101", 3, 1},
		{"ab bc ac abc", "1110", 0, -1},
		{"abc ab ac bc", "1111", 3, 0},
		{"ab ab ab", "111", 0, 1},
		{"ab ab ab", "111", 1, 0},
		{"ab ab ab", "111", 2, 0},
		{"ab ab ab", "101", 0, 2},
		{"a b c", "111", 0, 1},
		{"a b c", "111", 1, 0},
		{"a b c", "111", 2, 0},
		{"a b c", "011", 1, 2},
		{"a b c", "100", 0, -1},
		{"ab ac bd be", "1111", 0, -1},
		{"ab ac bd be", "1111", 1, 0},
		{"ab ac bd be", "1111", 3, 0},
		{"ab ac bd be", "0111", 3, 2},
		{"ab ac bd be", "0111", 1, 2},
		{"a", "1", 0, -1},
		{"ab", "1", 0, -1},
	} {
		ears(t, fmt.Sprint(x.relation, " in ", x.set, " of ", x.relations), parsed(x.relations), in(x.set), x.relation, x.want)
	}
}

func TestEarOfNoRelation(t *testing.T) {
	s := parsed("ab bc cd")
	for _, relation := range []int{-1, 3, 4, greatest, smallest} {
		ears(t, fmt.Sprint(relation), s, in("111"), relation, -1)
	}
	for relation := range 3 {
		others := in("111")
		others[relation] = false
		ears(t, fmt.Sprint("not in the set: ", relation), s, others, relation, -1)
		ears(t, "no set", s, nil, relation, -1)
		ears(t, "an empty set", s, in("000"), relation, -1)
		ears(t, "an element less", s, in("11"), relation, -1)
		ears(t, "an element more", s, in("1111"), relation, -1)
		ears(t, "an element more that is false", s, in("1110"), relation, -1)
		ears(t, "many elements", s, make([]bool, 1<<20), relation, -1)
	}
	ears(t, "a relation beyond the schema", s, in("1111"), 3, -1)
	ears(t, "one relation, not in the set", parsed("ab"), in("0"), 0, -1)
	ears(t, "one relation, no set", parsed("ab"), nil, 0, -1)
}

// TestEarTextbook goes through all sets of relations of all samples.
func TestEarTextbook(t *testing.T) {
	for _, s := range samples() {
		b := textbookOf(s)
		for set := range 1 << len(b) {
			digits := make([]bool, len(b))
			for _, r := range elements(set) {
				digits[r] = true
			}
			for relation := range b {
				want := append(b.witnesses(set, relation), -1)[0]
				witness, found := acyclic.Ear(s, digits, relation)
				if witness != want || found != (want >= 0) {
					t.Fatalf("Ear of %d in %v of %s: %d, %v, not %d", relation, digits, name(s), witness, found, want)
				}
			}
		}
	}
}

func TestReduce(t *testing.T) {
	for _, x := range []struct {
		relations           string
		order, core, parent []int
	}{
		{"ab bc cd", list(0, 1), list(2), list(1, 2, -1)},
		{"ab bc ac", nil, list(0, 1, 2), nil},
		{"a", nil, list(0), list(-1)},
		{"abc", nil, list(0), list(-1)},
		{"ab ab", list(0), list(1), list(1, -1)},
		{"a b", list(0), list(1), list(1, -1)},
		{"a b c", list(0, 1), list(2), list(1, 2, -1)},
		{"ab cd ac", list(0, 1), list(2), list(2, 2, -1)},
		{"abc ab ac", list(1, 0), list(2), list(2, 0, -1)},
		{"abc ab bc ac", list(1, 2, 0), list(3), list(3, 0, 0, -1)},
		{"ab bc ac abc", list(0, 1, 2), list(3), list(3, 3, 3, -1)},
		{"ab ac ad", list(0, 1), list(2), list(1, 2, -1)},
		{"abcd ae bf cg", list(1, 2, 0), list(3), list(3, 0, 0, -1)},
		{"bc ab cd de", list(1, 0, 2), list(3), list(2, 0, 3, -1)},
		{"cd de bc ab", list(1, 0, 2), list(3), list(2, 0, 3, -1)},
		{"ab bc ac cd", list(3), list(0, 1, 2), nil},
		{"cd ab bc ac", list(0), list(1, 2, 3), nil},
		{"de cd ab bc ac", list(0, 1), list(2, 3, 4), nil},
		{"cd de ab bc ac", list(1, 0), list(2, 3, 4), nil},
		{"ab bc ac d", list(3), list(0, 1, 2), nil},
		{"ab bc ac ab", list(0), list(1, 2, 3), nil},
		{"ab bc cd ad", nil, list(0, 1, 2, 3), nil},
		{"ab bc cd ad ac", nil, list(0, 1, 2, 3, 4), nil},
		{"ab bc cd ad abc acd", list(0, 1, 2, 3, 4), list(5), list(4, 4, 5, 5, 5, -1)},
		{"abc bcd acd abd", nil, list(0, 1, 2, 3), nil},
		{"ab bc cd de ef af", nil, list(0, 1, 2, 3, 4, 5), nil},
		{"ab bc cd de ef fg", list(0, 1, 2, 3, 4), list(5), list(1, 2, 3, 4, 5, -1)},
		{"abc cde aef ace bdf a", list(5), list(0, 1, 2, 3, 4), nil},
		{"abc cde aef ace", list(0, 1, 2), list(3), list(3, 3, 3, -1)},
		{"abc cde aef", nil, list(0, 1, 2), nil},
		{"abcdefghijkl abcdefghijkl abcdefghijkl abcdefghijkl abcdefghijkl abcdefghijkl", list(0, 1, 2, 3, 4), list(5), list(1, 2, 3, 4, 5, -1)},
		{"ab cd ef gh ij kl", list(0, 1, 2, 3, 4), list(5), list(1, 2, 3, 4, 5, -1)},
		{"abg bch cdi dej efk afl", nil, list(0, 1, 2, 3, 4, 5), nil},
		{"abl kl jk ij abcdefgh ac", list(3, 2, 1, 0, 4), list(5), list(4, 0, 1, 2, 5, -1)},
		{"abl kl jk ij abcdefghi ac", list(5), list(0, 1, 2, 3, 4), nil},
	} {
		reduces(t, parsed(x.relations), x.order, x.core, x.parent)
	}
}

// reduces compares Reduce, Tree and Acyclic with what is expected. Without Parents there is no tree.
func reduces(t *testing.T, s api.Schema, wantOrder, wantCore, wantParent []int) {
	t.Helper()
	order, core := acyclic.Reduce(s)
	same(t, "the order of "+name(s), order, wantOrder)
	same(t, "the core of "+name(s), core, wantCore)
	tree, found := acyclic.Tree(s)
	same(t, "the tree of "+name(s), tree.Parent, wantParent)
	same(t, "a tree of "+name(s), found, wantParent != nil)
	same(t, "Acyclic of "+name(s), acyclic.Acyclic(s), wantParent != nil)
}

func TestReduceTextbook(t *testing.T) {
	trees, none := 0, 0
	for _, s := range samples() {
		b := textbookOf(s)
		order, core, parent := b.reduced()
		if b.hasTree() {
			trees++
		} else {
			none++
			parent = nil
		}
		reduces(t, s, order, core, parent)
	}
	if trees < 1000 || none < 1000 {
		t.Errorf("%d samples with a tree and %d without are too few", trees, none)
	}
}

// TestOrderOfRemoval removes ears in all orders: what is left in the end is always as many relations.
func TestOrderOfRemoval(t *testing.T) {
	r := rand.New(rand.NewSource(8))
	schemas := every(3, 3)
	for range 100 {
		schemas = append(schemas, pseudoRandom(r))
	}
	for _, s := range schemas {
		_, core := acyclic.Reduce(s)
		left := map[int]bool{}
		ends(s, in(strings.Repeat("1", len(s.Relations))), left)
		same(t, "numbers of relations that are left of "+name(s), left, map[int]bool{len(core): true})
	}
}

// ends notes how many relations can be left in the end if ears are removed from a set.
func ends(s api.Schema, set []bool, left map[int]bool) {
	end := true
	for r := range set {
		if _, found := acyclic.Ear(s, set, r); found {
			end = false
			smaller := slices.Clone(set)
			smaller[r] = false
			ends(s, smaller, left)
		}
	}
	if end {
		n := 0
		for _, there := range set {
			if there {
				n++
			}
		}
		left[n] = true
	}
}

// invalids are schemas with different errors, each with a chain of three relations but for it.
func invalids() map[string]api.Schema {
	edited := func(edit func(s *api.Schema)) api.Schema {
		s := parsed("ab bc cd")
		edit(&s)
		return s
	}
	return map[string]api.Schema{
		"nothing":                        {},
		"no relations":                   related(3),
		"no attributes":                  {Relations: []api.Relation{{Name: "r"}}, Label: -1},
		"too many relations":             parsed("a a a a a a a"),
		"too many attributes":            parsed("ab bcdefghijklm"),
		"too many features":              edited(func(s *api.Schema) { s.Features = make([]api.Feature, api.MaxFeatures+1) }),
		"an attribute without a name":    edited(func(s *api.Schema) { s.Attributes[3].Name = "" }),
		"attributes of one name":         edited(func(s *api.Schema) { s.Attributes[3].Name = "a" }),
		"an attribute without a kind":    edited(func(s *api.Schema) { s.Attributes[0].Kind = 0 }),
		"a relation without a name":      edited(func(s *api.Schema) { s.Relations[0].Name = "R" }),
		"relations of one name":          edited(func(s *api.Schema) { s.Relations[0].Name = "r2" }),
		"a relation without attributes":  edited(func(s *api.Schema) { s.Relations[1].Attributes = nil }),
		"an attribute that is not there": edited(func(s *api.Schema) { s.Relations[2].Attributes = list(2, 3, 4) }),
		"a negative attribute":           edited(func(s *api.Schema) { s.Relations[2].Attributes = list(-1, 2, 3) }),
		"attributes that do not ascend":  edited(func(s *api.Schema) { s.Relations[0].Attributes = list(1, 0) }),
		"an attribute in no relation":    edited(func(s *api.Schema) { s.Relations[2].Attributes = list(2) }),
		"a feature of no attribute":      edited(func(s *api.Schema) { s.Features = []api.Feature{{Attribute: 4}} }),
		"a feature of another kind":      edited(func(s *api.Schema) { s.Features = []api.Feature{{Attribute: 0, Kind: api.FeatureNumber}} }),
		"a label that is not there":      edited(func(s *api.Schema) { s.Label = 4 }),
		"a label that is not a number":   edited(func(s *api.Schema) { s.Label = 0 }),
		"a negative label":               edited(func(s *api.Schema) { s.Label = -2 }),
	}
}

func TestInvalidSchemas(t *testing.T) {
	for title, s := range invalids() {
		if schema.Check(s) == api.OK {
			t.Errorf("%s is valid", title)
		}
		set := slices.Repeat([]bool{true}, len(s.Relations))
		for relation := -1; relation <= len(s.Relations); relation++ {
			ears(t, title, s, set, relation, -1)
		}
		order, core := acyclic.Reduce(s)
		same(t, "order of Reduce, "+title, order, list())
		same(t, "core of Reduce, "+title, core, list())
		tree, found := acyclic.Tree(s)
		same(t, "Tree, "+title, tree.Parent, list())
		same(t, "Tree, found, "+title, found, false)
		same(t, "Acyclic, "+title, acyclic.Acyclic(s), false)
		for n := range 8 {
			checks(t, s, list(-1, 0, 1, 2, 3, 4, 5)[:n], false)
		}
		same(t, "Closed, "+title, acyclic.Closed(s, nil, list(0, 1, 2)), false)
		same(t, "Closed without a core, "+title, acyclic.Closed(s, nil, nil), false)
		same(t, "Closed, order of all, "+title, acyclic.Closed(s, list(0, 1, 2), nil), false)
	}
}

// TestInvalidCore checks that a proof that was right is none if the schema has an error.
func TestInvalidCore(t *testing.T) {
	s := parsed("ab bc ac cd")
	same(t, "a proof", acyclic.Closed(s, list(3), list(0, 1, 2)), true)
	s.Label = 0
	same(t, "a proof of an invalid schema", acyclic.Closed(s, list(3), list(0, 1, 2)), false)
	s = parsed("abc cd de cf ag")
	same(t, "a tree", acyclic.Check(s, api.JoinTree{Parent: list(-1, 0, 1, 0, 0)}), true)
	s.Attributes[6].Name = "0"
	same(t, "a tree of an invalid schema", acyclic.Check(s, api.JoinTree{Parent: list(-1, 0, 1, 0, 0)}), false)
}

// TestFeaturesAndLabel checks that features, labels, kinds and names make no difference.
func TestFeaturesAndLabel(t *testing.T) {
	s := parsed("ab bc cd")
	for a := range s.Attributes {
		s.Attributes[a].Kind = 1 + (a+1)%3
	}
	s.Label = 0
	s.Features = []api.Feature{{Attribute: 1, Kind: api.FeatureOneHot}, {Attribute: 3, Kind: api.FeatureNumber, Missing: api.MissingDrop}}
	s.Relations[0].Name, s.Relations[2].Name = "z", "a"
	same(t, "the schema", schema.Check(s), api.OK)
	reduces(t, s, list(0, 1), list(2), list(1, 2, -1))
}

// TestArguments checks that no function changes its arguments, and that nothing that is written into a result is seen by the next call.
func TestArguments(t *testing.T) {
	for _, relations := range []string{"ab bc cd", "ab bc ac cd"} {
		s, set, parent, removed, left := parsed(relations), in("1110"), list(1, 2, -1), list(3), list(0, 1, 2)
		set = set[:len(s.Relations)]
		calls := func() string {
			order, core := acyclic.Reduce(s)
			tree, found := acyclic.Tree(s)
			witness, ear := acyclic.Ear(s, set, 0)
			results := text(order) + text(core) + text(tree) + fmt.Sprint(found, witness, ear, acyclic.Acyclic(s), acyclic.Check(s, api.JoinTree{Parent: parent}), acyclic.Closed(s, removed, left))
			for _, l := range [][]int{order, core, tree.Parent} {
				for i := range l {
					l[i] = -7
				}
				_ = append(l, -7)
			}
			return results
		}
		before := calls()
		same(t, "the second calls", calls(), before)
		same(t, "the schema", s, parsed(relations))
		same(t, "the set", set, in("1110")[:len(s.Relations)])
		same(t, "the lists", [][]int{parent, removed, left}, [][]int{{1, 2, -1}, {3}, {0, 1, 2}})
	}
}
