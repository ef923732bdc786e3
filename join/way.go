package join

import (
	"slices"

	"joinlearn/api"
	"joinlearn/schema"
)

// values are values of some attributes, each in its place; the others have "".
type values [api.MaxAttributes]string

// only returns the values of some attributes.
func (v values) only(attributes []int) values {
	var kept values
	for _, a := range attributes {
		kept[a] = v[a]
	}
	return kept
}

// A part is what some rows that agree say together: their values, and the product of their weights.
type part struct {
	values values
	weight int
}

// with returns what p and q say together. They agree where both have a value.
func (p part) with(q part) part {
	for a, v := range q.values {
		if v != "" {
			p.values[a] = v
		}
	}
	return part{p.values, p.weight * q.weight}
}

func (p part) compare(q part) int { return slices.Compare(p.values[:], q.values[:]) }

// An index finds the rows of a relation by their values of some attributes.
type index struct {
	attributes []int
	rows       map[values][]part
}

func newIndex(rows []part, attributes []int) index {
	x := index{attributes, map[values][]part{}}
	for _, row := range rows {
		key := row.values.only(attributes)
		x.rows[key] = append(x.rows[key], row)
	}
	return x
}

func (x index) matching(v values) []part { return x.rows[v.only(x.attributes)] }

// A step is a relation on the way through all relations. Its open attributes are those of relations before it that it or a relation behind it has as well.
type step struct {
	open   []int
	here   index
	behind []index
}

// agreed reports whether each relation behind has a row that agrees with values of the open attributes. To go on without one would be in vain, and there could be far too many such values to go on with.
func (t step) agreed(open values) bool {
	return !slices.ContainsFunc(t.behind, func(x index) bool { return len(x.matching(open)) == 0 })
}

// way returns a way through the relations of a database, for which Check is OK.
func way(s api.Schema, d api.Database) []step {
	rows := parts(s, d)
	relations := turns(s)
	var steps []step
	for i := range relations {
		open := openAt(s, relations, i)
		var indices []index
		for _, r := range relations[i:] {
			indices = append(indices, newIndex(rows[r], common(s.Relations[r].Attributes, open)))
		}
		steps = append(steps, step{open, indices[0], indices[1:]})
	}
	return steps
}

// turns returns the relations in an order in which each one has as many attributes as possible of those before it, so that little is open in between.
func turns(s api.Schema) []int {
	var taken, seen []int
	for len(taken) < len(s.Relations) {
		next, most := -1, -1
		for r, relation := range s.Relations {
			if shared := len(common(relation.Attributes, seen)); shared > most && !slices.Contains(taken, r) {
				next, most = r, shared
			}
		}
		taken = append(taken, next)
		seen = append(seen, s.Relations[next].Attributes...)
	}
	return taken
}

// openAt returns the attributes that relations before the i-th turn share with those from it on.
func openAt(s api.Schema, relations []int, i int) []int {
	return common(attributesOf(s, relations[:i]), attributesOf(s, relations[i:]))
}

// attributesOf returns the attributes that some relations have, ascending.
func attributesOf(s api.Schema, relations []int) []int {
	var all []int
	for _, r := range relations {
		all = append(all, s.Relations[r].Attributes...)
	}
	slices.Sort(all)
	return slices.Compact(all)
}

// common returns the elements of a that are in b.
func common(a, b []int) []int {
	var both []int
	for _, x := range a {
		if slices.Contains(b, x) {
			both = append(both, x)
		}
	}
	return both
}

// parts returns the live rows of each relation.
func parts(s api.Schema, d api.Database) [][]part {
	joined := schema.Joined(s)
	lists := make([][]part, len(d))
	for r, l := range d {
		for _, row := range live(s.Relations[r], l, joined) {
			p := part{weight: row.Weight}
			for i, a := range s.Relations[r].Attributes {
				p.values[a] = row.Values[i]
			}
			lists[r] = append(lists[r], p)
		}
	}
	return lists
}
