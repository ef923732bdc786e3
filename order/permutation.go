package order

import (
	"slices"

	"joinlearn/api"
	"joinlearn/schema"
)

// Of returns the order of a permutation of the attributes.
func Of(s api.Schema, permutation []int) (api.Order, api.Errno) {
	if e := schema.Check(s); e != api.OK {
		return api.Order{}, e
	}
	if len(permutation) != len(s.Attributes) {
		return api.Order{}, api.ErrShape
	}
	if slices.ContainsFunc(permutation, func(a int) bool { return a < 0 || a >= len(permutation) }) {
		return api.Order{}, api.ErrRange
	}
	var there set
	for _, a := range permutation {
		there |= only(a)
	}
	if there.size() < len(permutation) {
		return api.Order{}, api.ErrTwice
	}
	return graphOf(s).order(permutation), api.OK
}

// order removes attributes one after the other. What is then connected with the removed one is below it, and hangs on it until another one of this component is removed.
func (g graph) order(permutation []int) api.Order {
	parent := slices.Repeat([]int{-1}, len(permutation))
	rest := everything(len(permutation))
	for _, a := range permutation {
		for below := range g.component(rest, a).without(a).each {
			parent[below] = a
		}
		rest = rest.without(a)
	}
	return api.Order{Parent: parent}
}

// everything returns the set of so many attributes.
func everything(attributes int) set { return only(attributes) - 1 }

// Least returns the order of the least Width, and the lexicographically least permutation that has one.
func Least(s api.Schema) (api.Order, []int, api.Errno) {
	if e := schema.Check(s); e != api.OK {
		return api.Order{}, nil, e
	}
	g := graphOf(s)
	permutation := g.leastPermutation(everything(len(s.Attributes)))
	return g.order(permutation), permutation, api.OK
}

// leastPermutation takes the least attribute, again and again, behind which the least width can be kept. It only needs to know which attributes are left: the keys of these do not depend on the order in which the others were removed.
func (g graph) leastPermutation(all set) []int {
	widths := g.leastWidths(all)
	var permutation []int
	rest := all
	for range all.size() {
		for a := range rest.each {
			if g.widthWith(widths, rest, a) <= widths[all] {
				permutation = append(permutation, a)
				rest = rest.without(a)
				break
			}
		}
	}
	return permutation
}

// leastWidths returns, for each set of attributes that can be left, the least width that their keys permit.
func (g graph) leastWidths(all set) []int {
	widths := make([]int, all+1)
	for rest := set(1); rest <= all; rest++ {
		least := all.size()
		for a := range rest.each {
			least = min(least, g.widthWith(widths, rest, a))
		}
		widths[rest] = least
	}
	return widths
}

// widthWith returns the least width of what is left if this attribute is removed next. Its key is what surrounds its component: all of that has been removed.
func (g graph) widthWith(widths []int, rest set, attribute int) int {
	component := g.component(rest, attribute)
	key := g.around(component) &^ component
	return max(key.size()+1, widths[rest.without(attribute)])
}
