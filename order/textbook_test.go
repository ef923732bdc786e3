package order_test

import (
	"fmt"
	"math/rand"
	"slices"
	"strings"
	"testing"

	"joinlearn/api"
	"joinlearn/schema"
)

const (
	greatest = int(^uint(0) >> 1)
	smallest = -greatest - 1
)

// text writes a result. nil and empty slices are the same.
func text(x any) string { return strings.ReplaceAll(fmt.Sprintf("%#v", x), "(nil)", "{}") }

// same compares a result with what is expected.
func same(t *testing.T, name string, got, want any) {
	t.Helper()
	if g, w := text(got), text(want); g != w {
		t.Errorf("%s: %s, not %s", name, g, w)
	}
}

// related returns a schema of attributes a, b, .. with relations, each of which is written as the names of its attributes.
func related(attributes int, relations ...string) api.Schema {
	s := api.Schema{Label: -1}
	for i := range attributes {
		s.Attributes = append(s.Attributes, api.Attribute{Name: string(rune('a' + i)), Kind: api.KindCategory})
	}
	for i, names := range relations {
		relation := api.Relation{Name: fmt.Sprint("r", i)}
		for _, name := range names {
			relation.Attributes = append(relation.Attributes, int(name-'a'))
		}
		s.Relations = append(s.Relations, relation)
	}
	return s
}

// parsed reads a schema as name writes it.
func parsed(names string) api.Schema {
	most := 0
	for _, b := range names {
		most = max(most, int(b-'a')+1)
	}
	return related(most, strings.Fields(names)...)
}

// name writes the relations of a schema.
func name(s api.Schema) string {
	var l []string
	for _, r := range s.Relations {
		l = append(l, letters(r.Attributes))
	}
	return strings.Join(l, " ")
}

// letters writes attributes as their names.
func letters(attributes []int) string {
	var b strings.Builder
	for _, a := range attributes {
		b.WriteByte(byte('a' + a))
	}
	return b.String()
}

// list returns a list of its arguments.
func list(l ...int) []int { return l }

// every returns all valid schemas with so many attributes and relations.
func every(attributes, relations int) []api.Schema {
	schemas := []api.Schema{related(attributes)}
	for i := range relations {
		var longer []api.Schema
		for _, s := range schemas {
			for set := 1; set < 1<<attributes; set++ {
				r := api.Relation{Name: fmt.Sprint("r", i)}
				for a := range attributes {
					if set&(1<<a) != 0 {
						r.Attributes = append(r.Attributes, a)
					}
				}
				longer = append(longer, api.Schema{Attributes: s.Attributes, Relations: append(slices.Clone(s.Relations), r), Label: -1})
			}
		}
		schemas = longer
	}
	return slices.DeleteFunc(schemas, func(s api.Schema) bool { return schema.Check(s) != api.OK })
}

// pseudoRandom returns a valid schema of so many attributes whose relations are pseudo-random.
func pseudoRandom(r *rand.Rand, attributes int) api.Schema {
	for {
		s := related(attributes)
		rare := 1 + r.Intn(6)
		for i := range 1 + r.Intn(api.MaxRelations) {
			relation := api.Relation{Name: fmt.Sprint("r", i)}
			for a := range s.Attributes {
				if r.Intn(rare) == 0 {
					relation.Attributes = append(relation.Attributes, a)
				}
			}
			s.Relations = append(s.Relations, relation)
		}
		if schema.Check(s) == api.OK {
			return s
		}
	}
}

// sparse returns a valid schema of so many attributes with six small relations, as they are in chains, stars and circles.
func sparse(r *rand.Rand, attributes int) api.Schema {
	for {
		s := related(attributes)
		size := min(2+r.Intn(4), attributes)
		for i := range api.MaxRelations {
			l := r.Perm(attributes)[:1+r.Intn(size)]
			slices.Sort(l)
			s.Relations = append(s.Relations, api.Relation{Name: fmt.Sprint("r", i), Attributes: l})
		}
		if schema.Check(s) == api.OK {
			return s
		}
	}
}

// invalids are schemas with different errors, each with a chain of three relations but for it.
func invalids() map[string]api.Schema {
	edited := func(edit func(s *api.Schema)) api.Schema {
		s := parsed("ab bc cd")
		edit(&s)
		return s
	}
	return map[string]api.Schema{
		"nothing":                        {},
		"no relations":                   related(3),
		"no attributes":                  {Relations: []api.Relation{{Name: "r"}}, Label: -1},
		"too many relations":             parsed("a a a a a a a"),
		"too many attributes":            parsed("ab bcdefghijklm"),
		"far too many attributes":        {Attributes: make([]api.Attribute, 100), Relations: []api.Relation{{Name: "r"}}, Label: -1},
		"too many features":              edited(func(s *api.Schema) { s.Features = make([]api.Feature, api.MaxFeatures+1) }),
		"an attribute without a name":    edited(func(s *api.Schema) { s.Attributes[3].Name = "" }),
		"attributes of one name":         edited(func(s *api.Schema) { s.Attributes[3].Name = "a" }),
		"an attribute without a kind":    edited(func(s *api.Schema) { s.Attributes[0].Kind = 0 }),
		"a relation without a name":      edited(func(s *api.Schema) { s.Relations[0].Name = "R" }),
		"relations of one name":          edited(func(s *api.Schema) { s.Relations[0].Name = "r2" }),
		"a relation without attributes":  edited(func(s *api.Schema) { s.Relations[1].Attributes = nil }),
		"an attribute that is not there": edited(func(s *api.Schema) { s.Relations[2].Attributes = list(2, 3, 4) }),
		"a negative attribute":           edited(func(s *api.Schema) { s.Relations[2].Attributes = list(-1, 2, 3) }),
		"attributes that do not ascend":  edited(func(s *api.Schema) { s.Relations[0].Attributes = list(1, 0) }),
		"an attribute in no relation":    edited(func(s *api.Schema) { s.Relations[2].Attributes = list(2) }),
		"a feature of no attribute":      edited(func(s *api.Schema) { s.Features = []api.Feature{{Attribute: 4}} }),
		"a feature of another kind":      edited(func(s *api.Schema) { s.Features = []api.Feature{{Attribute: 0, Kind: api.FeatureNumber}} }),
		"a label that is not there":      edited(func(s *api.Schema) { s.Label = 4 }),
		"a label that is not a number":   edited(func(s *api.Schema) { s.Label = 0 }),
		"a negative label":               edited(func(s *api.Schema) { s.Label = -2 }),
	}
}

// A textbook does what the chapter says, with lists.
type textbook struct {
	relations [][]int
	linked    [][]bool // whether some relation has both attributes
}

func textbookOf(s api.Schema) textbook {
	var b textbook
	for _, r := range s.Relations {
		b.relations = append(b.relations, r.Attributes)
	}
	for x := range s.Attributes {
		b.linked = append(b.linked, nil)
		for y := range s.Attributes {
			b.linked[x] = append(b.linked[x], schema.Linked(s, x, y))
		}
	}
	return b
}

// which returns the numbers below n for which a test holds, ascending.
func which(n int, holds func(int) bool) []int {
	var l []int
	for x := range n {
		if holds(x) {
			l = append(l, x)
		}
	}
	return l
}

// up returns the ancestors of a variable, the nearest one first, and whether the Parents lead to a root.
func up(parent []int, variable int) ([]int, bool) {
	var way []int
	for range parent {
		if variable = parent[variable]; variable == -1 {
			return way, true
		}
		way = append(way, variable)
	}
	return nil, false
}

// checked is Check for a valid schema.
func (b textbook) checked(parent []int) api.Errno {
	if len(parent) != len(b.linked) {
		return api.ErrShape
	}
	for _, p := range parent {
		if p != -1 && (p < 0 || p >= len(parent)) {
			return api.ErrRange
		}
	}
	ways := make([][]int, len(parent))
	for v := range parent {
		way, leads := up(parent, v)
		if !leads {
			return api.ErrCycle
		}
		ways[v] = way
	}
	for _, l := range b.relations {
		for _, x := range l {
			for _, y := range l {
				if x != y && !slices.Contains(ways[x], y) && !slices.Contains(ways[y], x) {
					return api.ErrCycle
				}
			}
		}
	}
	return api.OK
}

func below(parent []int, variable int) []int {
	return which(len(parent), func(v int) bool {
		way, _ := up(parent, v)
		return v == variable || slices.Contains(way, variable)
	})
}

func (b textbook) key(parent []int, variable int) []int {
	way, _ := up(parent, variable)
	under := below(parent, variable)
	return which(len(parent), func(x int) bool {
		return slices.Contains(way, x) && slices.ContainsFunc(under, func(y int) bool { return b.linked[x][y] })
	})
}

func children(parent []int, variable int) []int {
	return which(len(parent), func(v int) bool { return parent[v] == variable })
}

func (b textbook) home(parent []int, relation int) int {
	for _, x := range b.relations[relation] {
		way, _ := up(parent, x)
		if !slices.ContainsFunc(b.relations[relation], func(y int) bool { return y != x && !slices.Contains(way, y) }) {
			return x
		}
	}
	return -1
}

func (b textbook) width(parent []int) int {
	most := 0
	for v := range parent {
		most = max(most, len(b.key(parent, v)))
	}
	return most + 1
}

// walked sorts the variables by the ways that lead down to them.
func walked(parent []int) []int {
	down := func(v int) []int {
		way, _ := up(parent, v)
		slices.Reverse(way)
		return append(way, v)
	}
	l := which(len(parent), func(int) bool { return true })
	slices.SortFunc(l, func(v, w int) int { return slices.Compare(down(v), down(w)) })
	return l
}

// components divides attributes into those that are connected, each part in the order in which they are given.
func (b textbook) components(attributes []int) [][]int {
	colour := map[int]int{}
	for i, a := range attributes {
		colour[a] = i
	}
	for range attributes {
		for _, x := range attributes {
			for _, y := range attributes {
				if b.linked[x][y] {
					colour[x] = min(colour[x], colour[y])
				}
			}
		}
	}
	parts := make([][]int, len(attributes))
	for _, a := range attributes {
		parts[colour[a]] = append(parts[colour[a]], a)
	}
	return slices.DeleteFunc(parts, func(l []int) bool { return len(l) == 0 })
}

// of returns the Parents of the order of a permutation.
func (b textbook) of(permutation []int) []int {
	parent := make([]int, len(permutation))
	var hang func(attributes []int, on int)
	hang = func(attributes []int, on int) {
		for _, l := range b.components(attributes) {
			parent[l[0]] = on
			hang(l[1:], l[0])
		}
	}
	hang(permutation, -1)
	return parent
}

// least goes through the permutations in lexicographical order, once for each width, and leaves out what begins with attributes behind which nothing was found.
func (b textbook) least() ([]int, int) {
	for width := 1; ; width++ {
		if permutation := b.extended(nil, width, map[[api.MaxAttributes]bool]bool{}); permutation != nil {
			return permutation, width
		}
	}
}

// extended returns the least permutation of a width with this beginning.
func (b textbook) extended(beginning []int, width int, hopeless map[[api.MaxAttributes]bool]bool) []int {
	if len(beginning) == len(b.linked) {
		return beginning
	}
	var removed [api.MaxAttributes]bool
	for _, a := range beginning {
		removed[a] = true
	}
	if hopeless[removed] {
		return nil
	}
	for a := range b.linked {
		if removed[a] || b.surrounding(a, removed) >= width {
			continue
		}
		if permutation := b.extended(append(slices.Clone(beginning), a), width, hopeless); permutation != nil {
			return permutation
		}
	}
	hopeless[removed] = true
	return nil
}

// surrounding returns how many removed attributes can be reached from an attribute through others that are not removed.
func (b textbook) surrounding(attribute int, removed [api.MaxAttributes]bool) int {
	var reached [api.MaxAttributes]bool
	n := 0
	var visit func(x int)
	visit = func(x int) {
		reached[x] = true
		if removed[x] {
			n++
			return
		}
		for y, linked := range b.linked[x] {
			if linked && !reached[y] {
				visit(y)
			}
		}
	}
	visit(attribute)
	return n
}

// lists calls with all lists of so many numbers from low to high.
func lists(length, low, high int, call func(l []int)) {
	l := make([]int, length)
	var fill func(i int)
	fill = func(i int) {
		if i == length {
			call(l)
			return
		}
		for x := low; x <= high; x++ {
			l[i] = x
			fill(i + 1)
		}
	}
	fill(0)
}

// permutations calls with all permutations of so many numbers, ascending.
func permutations(n int, call func(l []int)) {
	l := make([]int, 0, n)
	var fill func()
	fill = func() {
		if len(l) == n {
			call(l)
			return
		}
		for x := range n {
			if !slices.Contains(l, x) {
				l = append(l, x)
				fill()
				l = l[:len(l)-1]
			}
		}
	}
	fill()
}
