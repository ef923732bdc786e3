package order

import (
	"slices"

	"joinlearn/api"
	"joinlearn/schema"
)

// A forest is an order that is right for a valid schema.
type forest struct {
	parent []int
	above  []set // the ancestors of each variable
	graph  graph
}

// forestOf returns the forest of an order, or the first error that keeps it from being right.
func forestOf(s api.Schema, o api.Order) (forest, api.Errno) {
	if e := schema.Check(s); e != api.OK {
		return forest{}, e
	}
	if len(o.Parent) != len(s.Attributes) {
		return forest{}, api.ErrShape
	}
	if slices.ContainsFunc(o.Parent, func(p int) bool { return p < -1 || p >= len(o.Parent) }) {
		return forest{}, api.ErrRange
	}
	f := forest{parent: o.Parent, graph: graphOf(s)}
	for variable := range o.Parent {
		above, leads := ancestors(o.Parent, variable)
		if !leads {
			return forest{}, api.ErrCycle
		}
		f.above = append(f.above, above)
	}
	// Attributes lie on one way exactly if one of them has all others as ancestors: ancestors of the same variable lie on its way up.
	if slices.ContainsFunc(f.graph, func(r set) bool { return f.home(r) < 0 }) {
		return forest{}, api.ErrCycle
	}
	return f, api.OK
}

// ancestors goes up from a variable, and reports whether that leads to a root.
func ancestors(parent []int, variable int) (set, bool) {
	var passed set
	for p := parent[variable]; p >= 0; p = parent[p] {
		if passed&only(p) != 0 {
			return 0, false
		}
		passed |= only(p)
	}
	return passed, true
}

// has reports whether there is such a variable.
func (f forest) has(variable int) bool { return 0 <= variable && variable < len(f.parent) }

// home returns that attribute of a relation which has all others as ancestors, -1 if there is none.
func (f forest) home(relation set) int {
	for a := range relation.each {
		if relation&^f.above[a] == only(a) {
			return a
		}
	}
	return -1
}

func (f forest) below(variable int) set {
	found := only(variable)
	for v, above := range f.above {
		if above&only(variable) != 0 {
			found |= only(v)
		}
	}
	return found
}

func (f forest) key(variable int) set {
	return f.above[variable] & f.graph.around(f.below(variable))
}

// children returns the variables with this Parent, ascending.
func (f forest) children(parent int) []int {
	var found []int
	for v, p := range f.parent {
		if p == parent {
			found = append(found, v)
		}
	}
	return found
}
