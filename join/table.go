// Package join says what tables, databases and deltas are, and builds the join: the meaning of everything else (chapter 6).
package join

import (
	"slices"

	"joinlearn/api"
	"joinlearn/schema"
)

// Less reports whether a comes before b: their first element that differs decides, bytewise, and a beginning is less.
func Less(a, b []string) bool { return slices.Compare(a, b) < 0 }

// rules are what tables and deltas differ in: how many rows there are at most, and which weights rows have.
type rules struct {
	most   int
	allows func(weight int) bool
}

func ofTables() rules {
	return rules{api.MaxRows, func(weight int) bool { return 1 <= weight && weight <= api.MaxWeight }}
}

func ofDeltas() rules {
	return rules{api.MaxDelta, func(weight int) bool {
		return -api.MaxWeight <= weight && weight <= api.MaxWeight && weight != 0
	}}
}

// Table returns the first error that makes l no table of a relation.
func Table(s api.Schema, relation int, l []api.Row) api.Errno {
	return checkRows(s, relation, l, ofTables())
}

// Delta returns the first error that makes x no delta.
func Delta(s api.Schema, x api.Delta) api.Errno {
	return checkRows(s, x.Relation, x.Rows, ofDeltas())
}

// Check returns the first error that makes d no database.
func Check(s api.Schema, d api.Database) api.Errno {
	if e := schema.Check(s); e != api.OK {
		return e
	}
	if len(d) != len(s.Relations) {
		return api.ErrShape
	}
	for i, l := range d {
		if e := ofTables().check(s, s.Relations[i], l); e != api.OK {
			return e
		}
	}
	return api.OK
}

func checkRows(s api.Schema, relation int, l []api.Row, r rules) api.Errno {
	if e := schema.Check(s); e != api.OK {
		return e
	}
	if relation < 0 || relation >= len(s.Relations) {
		return api.ErrRange
	}
	return r.check(s, s.Relations[relation], l)
}

// check looks at the rows of a relation of a valid schema.
func (r rules) check(s api.Schema, relation api.Relation, l []api.Row) api.Errno {
	if len(l) > r.most {
		return api.ErrLimit
	}
	for i, row := range l {
		switch {
		case len(row.Values) != len(relation.Attributes):
			return api.ErrShape
		case !possible(s, relation, row.Values):
			return api.ErrValue
		case !r.allows(row.Weight):
			return api.ErrWeight
		case i > 0 && !Less(l[i-1].Values, row.Values):
			return api.ErrOrder
		}
	}
	return api.OK
}

// possible reports whether a relation can have a row with these values. There is one for each of its attributes.
func possible(s api.Schema, relation api.Relation, values []string) bool {
	for i, a := range relation.Attributes {
		if !schema.Value(s.Attributes[a], values[i]) {
			return false
		}
	}
	return true
}

// Sort returns rows in ascending order of their values, with one row for those that have the same values, unless their weights add up to 0.
func Sort(l []api.Row) []api.Row {
	sorted := slices.Clone(l)
	slices.SortFunc(sorted, func(a, b api.Row) int { return slices.Compare(a.Values, b.Values) })
	var merged []api.Row
	for len(sorted) > 0 {
		same := 1
		for same < len(sorted) && slices.Equal(sorted[0].Values, sorted[same].Values) {
			same++
		}
		if weight := weightOf(sorted[:same]); weight != 0 {
			merged = append(merged, api.Row{Values: slices.Clone(sorted[0].Values), Weight: weight})
		}
		sorted = sorted[same:]
	}
	return merged
}

func weightOf(l []api.Row) int {
	sum := 0
	for _, row := range l {
		sum += row.Weight
	}
	return sum
}

// Live returns the rows of a table that have a value for each join attribute, in order.
func Live(s api.Schema, relation int, l []api.Row) []api.Row {
	if Table(s, relation, l) != api.OK {
		return nil
	}
	return copies(live(s.Relations[relation], l, schema.Joined(s)))
}

// live returns the rows of a relation in which none of some attributes is missing.
func live(relation api.Relation, l []api.Row, needed []int) []api.Row {
	var kept []api.Row
	for _, row := range l {
		missing := func(a int) bool {
			place, has := slices.BinarySearch(relation.Attributes, a)
			return has && row.Values[place] == ""
		}
		if !slices.ContainsFunc(needed, missing) {
			kept = append(kept, row)
		}
	}
	return kept
}

// copies returns rows that share no memory with those of l.
func copies(l []api.Row) []api.Row {
	var fresh []api.Row
	for _, row := range l {
		fresh = append(fresh, api.Row{Values: slices.Clone(row.Values), Weight: row.Weight})
	}
	return fresh
}
