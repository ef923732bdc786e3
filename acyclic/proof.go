package acyclic

import (
	"slices"

	"joinlearn/api"
	"joinlearn/schema"
)

// Check reports whether a tree has a Parent for each relation and is right.
func Check(s api.Schema, t api.JoinTree) bool {
	return schema.Check(s) == api.OK && len(t.Parent) == len(s.Relations) && rooted(t) && connected(s, t)
}

// rooted reports whether exactly one Parent is -1 and the Parents lead from each relation there.
func rooted(t api.JoinTree) bool {
	roots := 0
	for r, p := range t.Parent {
		if p == -1 {
			roots++
		}
		if !leadsUp(t, r) {
			return false
		}
	}
	return roots == 1
}

// leadsUp reports whether the Parents lead from a relation to one with -1. A way that is longer than there are relations goes in a circle.
func leadsUp(t api.JoinTree, relation int) bool {
	for range t.Parent {
		relation = t.Parent[relation]
		if relation < 0 || relation >= len(t.Parent) {
			return relation == -1
		}
	}
	return false
}

// connected reports whether, for each attribute, all but one of the relations that have it have their Parent among them.
func connected(s api.Schema, t api.JoinTree) bool {
	for a := range s.Attributes {
		uses := schema.Uses(s, a)
		tops := kept(uses, func(r int) bool { return !slices.Contains(uses, t.Parent[r]) })
		if len(tops) != 1 {
			return false
		}
	}
	return true
}

// Closed reports whether order and core prove that a schema has no join tree.
func Closed(s api.Schema, order, core []int) bool {
	if schema.Check(s) != api.OK || len(core) < 2 {
		return false
	}
	left := all(s)
	for _, r := range order {
		// A relation that is not left, or does not exist, is no ear either.
		if _, found := witness(s, left, r); !found {
			return false
		}
		left = without(left, r)
	}
	_, found := leastEar(s, left)
	return slices.Equal(left, core) && !found
}
