package schema_test

import (
	"fmt"
	"math/rand"
	"testing"

	"joinlearn/api"
	"joinlearn/schema"
)

func TestUses(t *testing.T) {
	for a, want := range [][]int{store: {0, 2}, item: {0, 1}, size: {1, 2}, price: {1}, town: {2}, sold: {0}} {
		same(t, fmt.Sprint("Uses of ", a), schema.Uses(shop(), a), want)
	}
	for _, a := range []int{-1, -2, sold + 1, 99} {
		same(t, fmt.Sprint("Uses of ", a), schema.Uses(shop(), a), []int{})
	}
	same(t, "Uses in all relations", schema.Uses(numbered(2, 6, 0), 1), []int{0, 1, 2, 3, 4, 5})
}

func TestJoined(t *testing.T) {
	same(t, "Joined", schema.Joined(shop()), []int{store, item, size})
	same(t, "Joined of relations that share nothing", schema.Joined(edited(relation(0, store, sold), relation(2, town))), []int{})
	same(t, "Joined of one relation", schema.Joined(numbered(3, 1, 0)), []int{})
	same(t, "Joined of two relations", schema.Joined(numbered(3, 2, 0)), []int{0, 1, 2})
	same(t, "Joined of six relations", schema.Joined(numbered(3, 6, 0)), []int{0, 1, 2})
	same(t, "Joined of the last attribute", schema.Joined(edited(relation(0, store, item, sold), relation(1, size, sold), relation(2, price, town))), []int{sold})
}

func TestLinked(t *testing.T) {
	linked := [][]bool{
		store: {true, true, true, false, true, true},
		item:  {true, true, true, true, false, true},
		size:  {true, true, true, true, true, false},
		price: {false, true, true, true, false, false},
		town:  {true, false, true, false, true, false},
		sold:  {true, true, false, false, false, true},
	}
	for a, row := range linked {
		for b, want := range row {
			same(t, fmt.Sprint("Linked of ", a, b), schema.Linked(shop(), a, b), want)
		}
	}
	for _, a := range []int{-1, sold + 1, 99} {
		for _, b := range []int{-1, store, sold, sold + 1, 99} {
			same(t, fmt.Sprint("Linked of ", a, b), schema.Linked(shop(), a, b), false)
			same(t, fmt.Sprint("Linked of ", b, a), schema.Linked(shop(), b, a), false)
		}
	}
}

func TestFind(t *testing.T) {
	for i, a := range shop().Attributes {
		same(t, "Find "+a.Name, schema.Find(shop(), a.Name), i)
	}
	for _, name := range []string{"", "sales", "stor", "stores", "Store", "store ", "zoo"} {
		same(t, "Find "+name, schema.Find(shop(), name), -1)
	}
}

func TestNumbers(t *testing.T) {
	same(t, "Numbers", schema.Numbers(shop()), []int{0, 2})
	same(t, "Numbers without features", schema.Numbers(numbered(2, 2, 0)), []int{})
	same(t, "Numbers of numbers alone", schema.Numbers(numbered(8, 2, 8)), []int{0, 1, 2, 3, 4, 5, 6, 7})
	same(t, "Numbers of categories alone", schema.Numbers(edited(func(s *api.Schema) { s.Features = s.Features[1:2] })), []int{})
	same(t, "Numbers behind categories", schema.Numbers(edited(func(s *api.Schema) { s.Features = s.Features[1:] })), []int{1})
}

// TestLookupsOfInvalidSchemas goes through schemas with all errors of Check: nothing is found in them.
func TestLookupsOfInvalidSchemas(t *testing.T) {
	for _, x := range invalids() {
		same(t, "Joined, "+x.name, schema.Joined(x.s), []int{})
		same(t, "Numbers, "+x.name, schema.Numbers(x.s), []int{})
		for a := -1; a < 8; a++ {
			same(t, "Uses, "+x.name, schema.Uses(x.s, a), []int{})
			for b := -1; b < 8; b++ {
				same(t, "Linked, "+x.name, schema.Linked(x.s, a, b), false)
			}
		}
		for _, a := range x.s.Attributes {
			same(t, "Find, "+x.name, schema.Find(x.s, a.Name), -1)
		}
	}
}

// pseudoRandom returns a valid schema without features whose relations are pseudo-random.
func pseudoRandom(r *rand.Rand) api.Schema {
	s := numbered(1+r.Intn(api.MaxAttributes), 1+r.Intn(api.MaxRelations), 0)
	for i := range s.Relations {
		s.Relations[i].Attributes = nil
	}
	for a := range s.Attributes {
		certain := r.Intn(len(s.Relations))
		for i := range s.Relations {
			if i == certain || r.Intn(3) == 0 {
				s.Relations[i].Attributes = append(s.Relations[i].Attributes, a)
			}
		}
	}
	return s
}

// TestConsequences checks on many schemas that Linked is symmetric, that each attribute has uses, that it is joined if they are several, and that it is linked with itself and with the attributes beside it.
func TestConsequences(t *testing.T) {
	r := rand.New(rand.NewSource(5))
	for range 300 {
		s := pseudoRandom(r)
		if schema.Check(s) != api.OK {
			continue // a relation without attributes
		}
		var joined []int
		for a := range s.Attributes {
			uses := schema.Uses(s, a)
			if len(uses) == 0 {
				t.Errorf("attribute %d of %v has no uses", a, s)
			}
			if len(uses) > 1 {
				joined = append(joined, a)
			}
			beside := map[int]bool{}
			for _, i := range uses {
				for _, b := range s.Relations[i].Attributes {
					beside[b] = true
				}
			}
			for b := range s.Attributes {
				same(t, fmt.Sprint("Linked of ", a, b), schema.Linked(s, a, b), beside[b])
				same(t, fmt.Sprint("Linked of ", b, a), schema.Linked(s, b, a), beside[b])
			}
		}
		same(t, "Joined", schema.Joined(s), joined)
	}
}
