package schema_test

import (
	"fmt"
	"slices"
	"strings"
	"testing"

	"joinlearn/api"
	"joinlearn/schema"
)

// same compares a result with what is expected. nil and empty slices are the same.
func same(t *testing.T, name string, got, want any) {
	t.Helper()
	if g, w := fmt.Sprintf("%#v", got), fmt.Sprintf("%#v", want); g != w && fmt.Sprint(got, want) != "[] []" {
		t.Errorf("%s: %s, not %s", name, g, w)
	}
}

// The attributes of shop.
const (
	store = iota
	item
	size
	price
	town
	sold
)

// shop returns a valid schema with all kinds of attributes and features and with a label.
func shop() api.Schema {
	return api.Schema{
		Attributes: []api.Attribute{
			{Name: "store", Kind: api.KindKey},
			{Name: "item", Kind: api.KindKey},
			{Name: "size", Kind: api.KindNumber},
			{Name: "price", Kind: api.KindNumber},
			{Name: "town", Kind: api.KindCategory},
			{Name: "sold", Kind: api.KindNumber},
		},
		Relations: []api.Relation{
			{Name: "sales", Attributes: []int{store, item, sold}},
			{Name: "items", Attributes: []int{item, size, price}},
			{Name: "stores", Attributes: []int{store, size, town}},
		},
		Features: []api.Feature{
			{Attribute: price, Kind: api.FeatureNumber, Missing: api.MissingZero},
			{Attribute: town, Kind: api.FeatureOneHot, Missing: api.MissingZero},
			{Attribute: size, Kind: api.FeatureNumber, Missing: api.MissingDrop},
		},
		Label: sold,
	}
}

// edit is a change of a schema whose lists may be written into.
type edit func(s *api.Schema)

// edited returns shop with some changes.
func edited(edits ...edit) api.Schema {
	s := shop()
	for _, change := range edits {
		change(&s)
	}
	return s
}

// The following edits change a part of a schema.

func kind(i, kind int) edit {
	return func(s *api.Schema) { s.Attributes[i].Kind = kind }
}

func attributeName(i int, name string) edit {
	return func(s *api.Schema) { s.Attributes[i].Name = name }
}

func relationName(i int, name string) edit {
	return func(s *api.Schema) { s.Relations[i].Name = name }
}

func relation(i int, attributes ...int) edit {
	return func(s *api.Schema) { s.Relations[i].Attributes = attributes }
}

func feature(i, attribute, kind, missing int) edit {
	return func(s *api.Schema) { s.Features[i] = api.Feature{Attribute: attribute, Kind: kind, Missing: missing} }
}

func label(i int) edit {
	return func(s *api.Schema) { s.Label = i }
}

// unused adds an attribute that is in no relation.
func unused(s *api.Schema) {
	s.Attributes = append(s.Attributes, api.Attribute{Name: "colour", Kind: api.KindCategory})
}

// numbered returns a schema with so many attributes (numbers), relations (each one with all attributes) and features (of the first attributes).
func numbered(attributes, relations, features int) api.Schema {
	s := api.Schema{Label: -1}
	var all []int
	for i := range attributes {
		s.Attributes = append(s.Attributes, api.Attribute{Name: fmt.Sprint("a", i), Kind: api.KindNumber})
		all = append(all, i)
	}
	for i := range relations {
		s.Relations = append(s.Relations, api.Relation{Name: fmt.Sprint("r", i), Attributes: all})
	}
	for i := range features {
		s.Features = append(s.Features, api.Feature{Attribute: i, Kind: api.FeatureNumber})
	}
	return s
}

func TestWord(t *testing.T) {
	for _, s := range []string{"a", "z", "m", "a0", "a9", "a-", "a--", "store-7", "abcdefghijkl", "zzzzzzzzzzzz", "a-0123456789"} {
		same(t, fmt.Sprintf("Word(%q)", s), schema.Word(s), true)
	}
	for _, s := range []string{"", " ", "0", "-", "-a", "9a", "A", "aA", "a b", "a ", " a", "a_b", "a.b", "a/b", "a\n", "a\x00", "ä", "aä", "a\xff", "abcdefghijklm", strings.Repeat("a", 1<<16)} {
		same(t, fmt.Sprintf("Word(%q)", s), schema.Word(s), false)
	}
}

// TestBytesOfWords goes through all bytes at all places of words.
func TestBytesOfWords(t *testing.T) {
	const letters = "abcdefghijklmnopqrstuvwxyz"
	for length := 1; length <= api.MaxName; length++ {
		for place := range length {
			allowed := letters + "0123456789-"
			if place == 0 {
				allowed = letters
			}
			for b := range 256 {
				word := []byte(letters[:length])
				word[place] = byte(b)
				same(t, fmt.Sprintf("Word(%q)", word), schema.Word(string(word)), strings.IndexByte(allowed, byte(b)) >= 0)
			}
		}
	}
}

func TestCheckOfValidSchemas(t *testing.T) {
	for name, s := range map[string]api.Schema{
		"shop":                                     shop(),
		"no label":                                 edited(label(-1)),
		"another label":                            edited(label(price), feature(0, sold, api.FeatureNumber, api.MissingDrop)),
		"the first label":                          edited(kind(store, api.KindNumber), label(store)),
		"no features":                              edited(func(s *api.Schema) { s.Features = nil }),
		"a feature of the last attribute":          edited(label(-1), feature(0, sold, api.FeatureNumber, api.MissingZero)),
		"a feature of the first attribute":         edited(kind(store, api.KindCategory), feature(0, store, api.FeatureOneHot, api.MissingZero)),
		"a number that is joined":                  edited(feature(2, size, api.FeatureNumber, api.MissingZero)),
		"a relation with all attributes":           edited(relation(2, store, item, size, price, town, sold)),
		"relations with the same attributes":       edited(relation(0, store, item, sold), relation(1, store, item, sold), relation(2, size, price, town)),
		"a relation with one attribute":            edited(relation(0, sold), relation(1, item, size, price)),
		"no join":                                  edited(relation(2, store, town)),
		"an attribute and a relation of one name":  edited(relationName(0, "store")),
		"names of all lengths":                     edited(attributeName(0, "a"), attributeName(1, "abcdefghijkl"), relationName(0, "a"), relationName(1, "abcdefghijkl")),
		"names with digits":                        edited(attributeName(0, "a-0"), relationName(1, "r-9")),
		"one of each":                              numbered(1, 1, 1),
		"as many as there may be":                  numbered(api.MaxAttributes, api.MaxRelations, api.MaxFeatures),
		"as many attributes as there may be":       numbered(api.MaxAttributes, 1, 0),
		"as many relations as there may be":        numbered(1, api.MaxRelations, 0),
		"as many features as there may be":         numbered(api.MaxFeatures, 1, api.MaxFeatures),
		"as many features as there are attributes": numbered(3, 2, 3),
	} {
		same(t, name, schema.Check(s), api.OK)
	}
}

// invalid is a schema with an error.
type invalid struct {
	name string
	s    api.Schema
	e    api.Errno
}

// invalids are schemas with one error each.
func invalids() []invalid {
	return []invalid{
		{"nothing", api.Schema{}, api.ErrLimit},
		{"no attributes", edited(func(s *api.Schema) { s.Attributes = nil }), api.ErrLimit},
		{"too many attributes", numbered(api.MaxAttributes+1, 1, 0), api.ErrLimit},
		{"no relations", edited(func(s *api.Schema) { s.Relations = []api.Relation{} }), api.ErrLimit},
		{"too many relations", numbered(1, api.MaxRelations+1, 0), api.ErrLimit},
		{"too many features", numbered(api.MaxAttributes, 1, api.MaxFeatures+1), api.ErrLimit},
		{"an attribute without a name", edited(attributeName(0, "")), api.ErrName},
		{"an attribute that is no word", edited(attributeName(sold, "Sold")), api.ErrName},
		{"an attribute with a long name", edited(attributeName(item, "abcdefghijklm")), api.ErrName},
		{"neighbours of one name", edited(attributeName(item, "store")), api.ErrTwice},
		{"attributes of one name", edited(attributeName(sold, "store")), api.ErrTwice},
		{"the last attributes of one name", edited(attributeName(sold, "town")), api.ErrTwice},
		{"no kind", edited(kind(store, 0)), api.ErrSchema},
		{"another kind", edited(kind(item, 4)), api.ErrSchema},
		{"a negative kind", edited(kind(item, -1)), api.ErrSchema},
		{"a relation without a name", edited(relationName(0, "")), api.ErrName},
		{"a relation that is no word", edited(relationName(2, "0s")), api.ErrName},
		{"a relation with a long name", edited(relationName(1, "abcdefghijklm")), api.ErrName},
		{"neighbouring relations of one name", edited(relationName(1, "sales")), api.ErrTwice},
		{"relations of one name", edited(relationName(2, "sales")), api.ErrTwice},
		{"a relation without attributes", edited(relation(2), relation(1, store, item, size, price, town)), api.ErrSchema},
		{"an attribute that does not exist", edited(relation(2, store, size, town, sold+1)), api.ErrRange},
		{"a negative attribute", edited(relation(0, -1, store, item, sold)), api.ErrRange},
		{"attributes that descend", edited(relation(2, store, town, size)), api.ErrOrder},
		{"an attribute that is twice in a relation", edited(relation(2, store, size, size, town)), api.ErrOrder},
		{"the first attributes descend", edited(relation(0, item, store, sold)), api.ErrOrder},
		{"an attribute in no relation", edited(unused), api.ErrSchema},
		{"the first attribute is in no relation", edited(relation(0, item, sold), relation(2, size, town)), api.ErrSchema},
		{"the label is in no relation", edited(relation(0, store, item)), api.ErrSchema},
		{"a feature of no attribute", edited(feature(0, sold+1, api.FeatureNumber, api.MissingZero)), api.ErrRange},
		{"a feature of a negative attribute", edited(feature(2, -1, api.FeatureNumber, api.MissingZero)), api.ErrRange},
		{"a feature without a kind", edited(feature(0, price, 0, api.MissingZero)), api.ErrSchema},
		{"a feature of another kind", edited(feature(1, town, 3, api.MissingZero)), api.ErrSchema},
		{"a number of a key", edited(feature(0, store, api.FeatureNumber, api.MissingZero)), api.ErrSchema},
		{"categories of a key", edited(feature(0, store, api.FeatureOneHot, api.MissingZero)), api.ErrSchema},
		{"categories of a number", edited(feature(0, price, api.FeatureOneHot, api.MissingZero)), api.ErrSchema},
		{"a number of a category", edited(feature(1, town, api.FeatureNumber, api.MissingZero)), api.ErrSchema},
		{"categories that are dropped", edited(feature(1, town, api.FeatureOneHot, api.MissingDrop)), api.ErrSchema},
		{"a number with another Missing", edited(feature(0, price, api.FeatureNumber, 2)), api.ErrSchema},
		{"a number with a negative Missing", edited(feature(0, price, api.FeatureNumber, -1)), api.ErrSchema},
		{"categories with another Missing", edited(feature(1, town, api.FeatureOneHot, 2)), api.ErrSchema},
		{"features of one attribute", edited(feature(2, price, api.FeatureNumber, api.MissingDrop)), api.ErrTwice},
		{"neighbouring features of one attribute", edited(feature(2, town, api.FeatureOneHot, api.MissingZero)), api.ErrTwice},
		{"a feature of the label", edited(feature(0, sold, api.FeatureNumber, api.MissingZero)), api.ErrTwice},
		{"a label that does not exist", edited(label(sold + 1)), api.ErrRange},
		{"a negative label", edited(label(-2)), api.ErrRange},
		{"a label that is a key", edited(label(store)), api.ErrSchema},
		{"a label that is a category", edited(label(town), func(s *api.Schema) { s.Features = nil }), api.ErrSchema},
	}
}

func TestCheckErrors(t *testing.T) {
	for _, x := range invalids() {
		same(t, x.name, schema.Check(x.s), x.e)
	}
}

// TestOrderOfErrors makes a schema worse and worse, from the last errors that Check looks for to the first ones: each schema has the errors behind its own as well.
func TestOrderOfErrors(t *testing.T) {
	s := shop()
	for _, x := range []struct {
		name  string
		worse edit
		e     api.Errno
	}{
		{"a label that is a key", label(item), api.ErrSchema},
		{"a label that does not exist", label(99), api.ErrRange},
		{"two features of one attribute", feature(2, price, api.FeatureNumber, api.MissingZero), api.ErrTwice},
		{"the second one of another kind", feature(2, price, 7, api.MissingZero), api.ErrSchema},
		{"the second one of no attribute", feature(2, 99, 7, api.MissingZero), api.ErrRange},
		{"the first one of another kind", feature(0, price, 7, api.MissingZero), api.ErrSchema},
		{"the first one of no attribute", feature(0, -1, 7, api.MissingZero), api.ErrRange},
		{"an attribute in no relation", unused, api.ErrSchema},
		{"a last relation that descends", relation(2, town, store), api.ErrOrder},
		{"and whose attribute does not exist", relation(2, town, store, 99), api.ErrRange},
		{"a last relation without attributes", relation(2), api.ErrSchema},
		{"and with the name of another one", relationName(2, "sales"), api.ErrTwice},
		{"and without a word", relationName(2, "?"), api.ErrName},
		{"a relation that descends", relation(1, price, item), api.ErrOrder},
		{"and whose attribute is negative", relation(1, price, item, -5), api.ErrRange},
		{"and with the name of another one", relationName(1, "sales"), api.ErrTwice},
		{"and without a word", relationName(1, "?"), api.ErrName},
		{"a first relation without attributes", relation(0), api.ErrSchema},
		{"and without a word", relationName(0, "?"), api.ErrName},
		{"a last attribute of no kind", kind(sold, 0), api.ErrSchema},
		{"and with the name of another one", attributeName(sold, "town"), api.ErrTwice},
		{"and without a word", attributeName(sold, "?"), api.ErrName},
		{"a first attribute of no kind", kind(store, 0), api.ErrSchema},
		{"and without a word", attributeName(store, "?"), api.ErrName},
		{"too many features", func(s *api.Schema) { s.Features = make([]api.Feature, api.MaxFeatures+1) }, api.ErrLimit},
	} {
		x.worse(&s)
		same(t, x.name, schema.Check(s), x.e)
	}
	for name, s := range map[string]api.Schema{
		"too many attributes that are nothing": {Attributes: make([]api.Attribute, api.MaxAttributes+1), Relations: make([]api.Relation, 1)},
		"too many relations that are nothing":  {Attributes: make([]api.Attribute, 1), Relations: make([]api.Relation, api.MaxRelations+1)},
		"no relations, attributes of one name": {Attributes: make([]api.Attribute, 2)},
	} {
		same(t, name, schema.Check(s), api.ErrLimit)
	}
	same(t, "a feature of the label, of another kind", schema.Check(edited(feature(0, sold, api.FeatureOneHot, api.MissingZero))), api.ErrSchema)
	same(t, "a feature of a label that is a key", schema.Check(edited(kind(sold, api.KindKey))), api.ErrSchema)
	same(t, "a feature of a label that is a category", schema.Check(edited(label(town))), api.ErrTwice)
}

// TestGreatArguments calls with lists and numbers that are far beyond the limits.
func TestGreatArguments(t *testing.T) {
	const most = int(^uint(0) >> 1)
	same(t, "a great attribute of a relation", schema.Check(edited(relation(0, store, item, sold, most))), api.ErrRange)
	same(t, "a small attribute of a relation", schema.Check(edited(relation(0, -most-1, store))), api.ErrRange)
	same(t, "a relation with many attributes", schema.Check(edited(relation(0, make([]int, 1<<20)...))), api.ErrOrder)
	same(t, "a great label", schema.Check(edited(label(most))), api.ErrRange)
	same(t, "a small label", schema.Check(edited(label(-most-1))), api.ErrRange)
	same(t, "a feature of a great attribute", schema.Check(edited(feature(0, most, api.FeatureNumber, 0))), api.ErrRange)
	same(t, "a great kind", schema.Check(edited(kind(0, most))), api.ErrSchema)
	same(t, "many of all", schema.Check(numbered(1<<12, 1<<12, 1<<12)), api.ErrLimit)
	same(t, "a long name", schema.Check(edited(attributeName(0, strings.Repeat("a", 1<<20)))), api.ErrName)
	same(t, "uses of a great attribute", schema.Uses(shop(), most), []int{})
	same(t, "link of great attributes", schema.Linked(shop(), most, -most-1), false)
}

// TestArguments checks that no function changes its arguments, and that nothing that is written into a result is seen by the next call.
func TestArguments(t *testing.T) {
	s := shop()
	calls := func() string {
		uses, joined, numbers := schema.Uses(s, size), schema.Joined(s), schema.Numbers(s)
		text := fmt.Sprint(schema.Check(s), uses, joined, numbers, schema.Linked(s, size, town), schema.Find(s, "town"), schema.Value(s.Attributes[price], "1/2"))
		for _, l := range [][]int{uses, joined, numbers} {
			slices.Reverse(l)
			clear(l)
		}
		return text
	}
	before := calls()
	same(t, "the schema", s, shop())
	same(t, "the second calls", calls(), before)
	same(t, "the schema behind the second calls", s, shop())
}
