package schema

import (
	"slices"

	"joinlearn/api"
)

// Uses returns the relations that have an attribute, ascending.
func Uses(s api.Schema, attribute int) []int {
	if Check(s) != api.OK {
		return nil
	}
	return uses(s, attribute)
}

func uses(s api.Schema, attribute int) []int {
	return indices(s.Relations, func(r api.Relation) bool { return has(r, attribute) })
}

// indices returns the indices of the elements for which a test holds, ascending.
func indices[E any](l []E, holds func(E) bool) []int {
	var found []int
	for i, x := range l {
		if holds(x) {
			found = append(found, i)
		}
	}
	return found
}

// Joined returns the attributes that are in two or more relations, ascending.
func Joined(s api.Schema) []int {
	if Check(s) != api.OK {
		return nil
	}
	var joined []int
	for a := range s.Attributes {
		if len(uses(s, a)) > 1 {
			joined = append(joined, a)
		}
	}
	return joined
}

// Linked reports whether some relation has both attributes.
func Linked(s api.Schema, a, b int) bool {
	return Check(s) == api.OK && slices.ContainsFunc(s.Relations, func(r api.Relation) bool { return has(r, a) && has(r, b) })
}

// Find returns the index of the attribute with this name, -1 if there is none.
func Find(s api.Schema, name string) int {
	if Check(s) != api.OK {
		return -1
	}
	return slices.IndexFunc(s.Attributes, func(a api.Attribute) bool { return a.Name == name })
}

// Numbers returns the features with FeatureNumber, ascending.
func Numbers(s api.Schema) []int {
	if Check(s) != api.OK {
		return nil
	}
	return indices(s.Features, func(f api.Feature) bool { return f.Kind == api.FeatureNumber })
}
