package order

import (
	"math/bits"

	"joinlearn/api"
)

// A set is a set of attributes, with a bit for each one: a valid schema has few enough of them.
type set uint

func only(attribute int) set { return 1 << attribute }

func (x set) without(attribute int) set { return x &^ only(attribute) }

func (x set) size() int { return bits.OnesCount(uint(x)) }

// each yields the elements, ascending.
func (x set) each(yield func(int) bool) {
	for ; x != 0; x &= x - 1 {
		if !yield(bits.TrailingZeros(uint(x))) {
			return
		}
	}
}

// A graph has the attributes of each relation of a valid schema. It does not change when attributes are removed: its functions are told which part is left.
type graph []set

func graphOf(s api.Schema) graph {
	g := make(graph, len(s.Relations))
	for i, r := range s.Relations {
		for _, a := range r.Attributes {
			g[i] |= only(a)
		}
	}
	return g
}

// around returns all attributes of the relations that have one of a set. The set is among them, since each attribute is in a relation.
func (g graph) around(x set) set {
	var found set
	for _, r := range g {
		if r&x != 0 {
			found |= r
		}
	}
	return found
}

// component returns what is connected with an attribute within a set that has it.
func (g graph) component(within set, attribute int) set {
	c := only(attribute)
	for {
		wider := g.around(c) & within
		if wider == c {
			return c
		}
		c = wider
	}
}
