package join

import (
	"slices"

	"joinlearn/api"
)

// Apply returns the database in which the weights of the rows of a delta are added to those of its relation.
func Apply(s api.Schema, d api.Database, x api.Delta) (api.Database, api.Errno) {
	if e := Check(s, d); e != api.OK {
		return nil, e
	}
	if e := Delta(s, x); e != api.OK {
		return nil, e
	}
	table := Sort(slices.Concat(d[x.Relation], x.Rows))
	switch {
	case slices.ContainsFunc(table, func(row api.Row) bool { return !ofTables().allows(row.Weight) }):
		return nil, api.ErrWeight
	case len(table) > api.MaxRows:
		return nil, api.ErrLimit
	}
	behind := make(api.Database, len(d))
	for i, l := range d {
		if i == x.Relation {
			behind[i] = table
		} else {
			behind[i] = copies(l)
		}
	}
	return behind, api.OK
}

// Between returns the deltas that lead from a to b, ascending by relation, without empty ones.
func Between(s api.Schema, a, b api.Database) ([]api.Delta, api.Errno) {
	if e := Check(s, a); e != api.OK {
		return nil, e
	}
	if e := Check(s, b); e != api.OK {
		return nil, e
	}
	var deltas []api.Delta
	for i := range s.Relations {
		if rows := Sort(slices.Concat(negated(a[i]), b[i])); len(rows) > 0 {
			deltas = append(deltas, api.Delta{Relation: i, Rows: rows})
		}
	}
	return deltas, api.OK
}

// negated returns rows that take away what the rows of l give.
func negated(l []api.Row) []api.Row {
	var opposite []api.Row
	for _, row := range l {
		opposite = append(opposite, api.Row{Values: row.Values, Weight: -row.Weight})
	}
	return opposite
}
