package join_test

import (
	"fmt"
	"math/rand"
	"slices"
	"strings"
	"testing"

	"joinlearn/api"
	"joinlearn/join"
	"joinlearn/schema"
)

// text writes a result. nil and empty slices are the same.
func text(x any) string { return strings.ReplaceAll(fmt.Sprintf("%#v", x), "(nil)", "{}") }

// same compares a result with what is expected.
func same(t *testing.T, name string, got, want any) {
	t.Helper()
	if g, w := text(got), text(want); g != w {
		t.Errorf("%s: %s, not %s", name, g, w)
	}
}

// row returns a row with a weight.
func row(weight int, values ...string) api.Row { return api.Row{Values: values, Weight: weight} }

// shop returns a schema of sales (item, store, sold), items (item, price, colour) and stores (store, town).
func shop() api.Schema {
	return api.Schema{
		Attributes: []api.Attribute{
			{Name: "item", Kind: api.KindKey},
			{Name: "store", Kind: api.KindCategory},
			{Name: "price", Kind: api.KindNumber},
			{Name: "colour", Kind: api.KindCategory},
			{Name: "town", Kind: api.KindCategory},
			{Name: "sold", Kind: api.KindNumber},
		},
		Relations: []api.Relation{
			{Name: "sales", Attributes: []int{0, 1, 5}},
			{Name: "items", Attributes: []int{0, 2, 3}},
			{Name: "stores", Attributes: []int{1, 4}},
		},
		Features: []api.Feature{{Attribute: 2, Kind: api.FeatureNumber}, {Attribute: 3, Kind: api.FeatureOneHot}},
		Label:    5,
	}
}

// sold returns a database of shop.
func sold() api.Database {
	return api.Database{
		{row(2, "", "a", "1"), row(1, "1", "", "7"), row(3, "1", "a", "4"), row(1, "1", "b", ""), row(5, "2", "a", "-1/2"), row(1, "3", "c", "9")},
		{row(1, "", "5", "red"), row(2, "1", "3/4", "red"), row(1, "1", "3/4", "white"), row(4, "2", "", "")},
		{row(1, "", "rome"), row(1, "a", ""), row(3, "a", "oslo"), row(1, "b", "rome")},
	}
}

// broken returns a schema with two errors, of which ErrName is the first one.
func broken() api.Schema {
	s := shop()
	s.Attributes[2].Name, s.Label = "Price", 9
	return s
}

// keys returns n rows of a relation with one key, all of the same weight.
func keys(n, weight int) []api.Row {
	var l []api.Row
	for i := range n {
		l = append(l, row(weight, fmt.Sprint(100+i)))
	}
	return l
}

// single returns a schema with one relation of one key.
func single() api.Schema {
	return api.Schema{Attributes: []api.Attribute{{Name: "k", Kind: api.KindKey}}, Relations: []api.Relation{{Name: "r", Attributes: []int{0}}}, Label: -1}
}

func TestLess(t *testing.T) {
	ascending := [][]string{nil, {""}, {"", ""}, {"", "", "z"}, {"", "a"}, {"-1"}, {"-1", "zz"}, {"10"}, {"2"}, {"2", ""}, {"2", "1"}, {"2", "1", ""}, {"2", "10"}, {"2", "9"}, {"21"}, {"Z"}, {"a"}, {"a", "z"}, {"ab"}, {"ab", ""}, {"b"}, {"\x80"}, {"é"}, {"\xff"}}
	for i, a := range ascending {
		for j, b := range ascending {
			same(t, fmt.Sprintf("Less of %q and %q", a, b), join.Less(slices.Clone(a), slices.Clone(b)), i < j)
		}
	}
	same(t, "Less of nil and an empty list", join.Less(nil, []string{}), false)
	same(t, "Less of an empty list and nil", join.Less([]string{}, nil), false)
}

// rowErrors are lists of rows of the items of shop; each one has all errors behind its own as well. (An order is not compared between lists of different lengths or of values that are none, since they are refused before.)
var rowErrors = []struct {
	name string
	rows []api.Row
	want api.Errno
}{
	{"too short, weight", []api.Row{row(1, "2", "1", "red"), row(0, "1", "01")}, api.ErrShape},
	{"too long, value, weight, order", []api.Row{row(1, "2", "1", "red"), row(0, "1", "01", "red", "red")}, api.ErrShape},
	{"no values", []api.Row{row(0)}, api.ErrShape},
	{"first value, weight, order", []api.Row{row(1, "2", "1", "red"), row(0, "01", "1", "red")}, api.ErrValue},
	{"middle value, weight, order", []api.Row{row(1, "2", "1", "red"), row(0, "1", "2/4", "red")}, api.ErrValue},
	{"last value, weight, order", []api.Row{row(1, "2", "1", "red"), row(0, "1", "1", "Red")}, api.ErrValue},
	{"value of another attribute", []api.Row{row(1, "red", "1", "2")}, api.ErrValue},
	{"weight, order", []api.Row{row(1, "2", "1", "red"), row(0, "1", "1", "red")}, api.ErrWeight},
	{"weight too great, order", []api.Row{row(1, "2", "1", "red"), row(101, "1", "1", "red")}, api.ErrWeight},
	{"weight too small, order", []api.Row{row(1, "2", "1", "red"), row(-101, "1", "1", "red")}, api.ErrWeight},
	{"order", []api.Row{row(1, "2", "1", "red"), row(1, "1", "1", "red")}, api.ErrOrder},
	{"order of the last value", []api.Row{row(1, "1", "1", "red"), row(1, "1", "1", "blue")}, api.ErrOrder},
	{"order of a missing value", []api.Row{row(1, "1", "1", "red"), row(1, "1", "", "red")}, api.ErrOrder},
	{"the same values", []api.Row{row(1, "1", "1", "red"), row(1, "1", "1", "red")}, api.ErrOrder},
	{"order as texts, not as numbers", []api.Row{row(1, "9", "1", "red"), row(1, "10", "1", "red")}, api.ErrOrder},
	{"order of the third row", []api.Row{row(1, "1", "1", "red"), row(1, "3", "1", "red"), row(1, "2", "1", "red")}, api.ErrOrder},
	{"a row before others", []api.Row{row(1, "3", "1", "red"), row(1, "2", "1", "red"), row(0, "1", "01")}, api.ErrOrder},
	{"a weight before a shape", []api.Row{row(0, "3", "1", "red"), row(1)}, api.ErrWeight},
	{"a value before a weight of the next row", []api.Row{row(1, "3", "x", "red"), row(0, "4", "1", "red")}, api.ErrValue},
}

// TestRows checks what tables, databases and deltas have in common.
func TestRows(t *testing.T) {
	valid := [][]api.Row{nil, {}, {row(1, "", "", "")}, {row(100, "1", "1", "red")}, {row(1, "", "", ""), row(2, "", "", "a"), row(3, "", "-1", ""), row(4, "-5", "", ""), row(5, "10", "1/12", "red-2"), row(6, "9", "", "")}}
	for _, l := range valid {
		same(t, "Table of "+text(l), join.Table(shop(), 1, l), api.OK)
		same(t, "Delta of "+text(l), join.Delta(shop(), api.Delta{Relation: 1, Rows: l}), api.OK)
		same(t, "Check of "+text(l), join.Check(shop(), api.Database{nil, l, nil}), api.OK)
	}
	for _, x := range rowErrors {
		same(t, "Table, "+x.name, join.Table(shop(), 1, x.rows), x.want)
		same(t, "Delta, "+x.name, join.Delta(shop(), api.Delta{Relation: 1, Rows: x.rows}), x.want)
		same(t, "Check, "+x.name, join.Check(shop(), api.Database{nil, x.rows, nil}), x.want)
		same(t, "Table without a schema, "+x.name, join.Table(broken(), 1, x.rows), api.ErrName)
		same(t, "Delta without a schema, "+x.name, join.Delta(broken(), api.Delta{Relation: 1, Rows: x.rows}), api.ErrName)
		same(t, "Check without a schema, "+x.name, join.Check(broken(), api.Database{x.rows}), api.ErrName)
		for _, r := range []int{-1, -2, 3, 99} {
			same(t, fmt.Sprint("Table of relation ", r, ", ", x.name), join.Table(shop(), r, x.rows), api.ErrRange)
			same(t, fmt.Sprint("Delta of relation ", r, ", ", x.name), join.Delta(shop(), api.Delta{Relation: r, Rows: x.rows}), api.ErrRange)
		}
		same(t, "Check of too few tables, "+x.name, join.Check(shop(), api.Database{nil, x.rows}), api.ErrShape)
		same(t, "Check of too many tables, "+x.name, join.Check(shop(), api.Database{nil, x.rows, nil, nil}), api.ErrShape)
	}
	same(t, "Table without a schema and a relation", join.Table(broken(), -1, nil), api.ErrName)
	same(t, "Delta without a schema and a relation", join.Delta(broken(), api.Delta{Relation: 3}), api.ErrName)
	same(t, "Check of nothing", join.Check(shop(), nil), api.ErrShape)
	same(t, "Table of the empty schema", join.Table(api.Schema{}, 0, nil), api.ErrLimit)
	same(t, "Check of the empty schema", join.Check(api.Schema{}, nil), api.ErrLimit)
}

// TestWeights goes through all weights near the bounds.
func TestWeights(t *testing.T) {
	huge := int(^uint(0) >> 1)
	for _, w := range []int{-huge - 1, -101, -100, -99, -1, 0, 1, 2, 99, 100, 101, huge} {
		table, delta := api.ErrWeight, api.ErrWeight
		if w >= 1 && w <= 100 {
			table = api.OK
		}
		if w != 0 && w >= -100 && w <= 100 {
			delta = api.OK
		}
		same(t, fmt.Sprint("Table with the weight ", w), join.Table(single(), 0, keys(2, w)), table)
		same(t, fmt.Sprint("Check with the weight ", w), join.Check(single(), api.Database{keys(2, w)}), table)
		same(t, fmt.Sprint("Delta with the weight ", w), join.Delta(single(), api.Delta{Rows: keys(2, w)}), delta)
	}
}

// TestLimits goes through lists just at and beyond the limits. Too many rows come before their other errors.
func TestLimits(t *testing.T) {
	for _, x := range []struct {
		rows         int
		table, delta api.Errno
	}{{59, api.OK, api.OK}, {60, api.OK, api.OK}, {61, api.ErrLimit, api.OK}, {119, api.ErrLimit, api.OK}, {120, api.ErrLimit, api.OK}, {121, api.ErrLimit, api.ErrLimit}} {
		l := keys(x.rows, 1)
		same(t, fmt.Sprint("Table of ", x.rows), join.Table(single(), 0, l), x.table)
		same(t, fmt.Sprint("Check of ", x.rows), join.Check(single(), api.Database{l}), x.table)
		same(t, fmt.Sprint("Delta of ", x.rows), join.Delta(single(), api.Delta{Rows: l}), x.delta)
		same(t, fmt.Sprint("Table of no relation of ", x.rows), join.Table(single(), 1, l), api.ErrRange)
		same(t, fmt.Sprint("Delta of no relation of ", x.rows), join.Delta(single(), api.Delta{Relation: -1, Rows: l}), api.ErrRange)
	}
	same(t, "Table of 61 rows without values", join.Table(single(), 0, make([]api.Row, 61)), api.ErrLimit)
	same(t, "Table of 60 rows without values", join.Table(single(), 0, make([]api.Row, 60)), api.ErrShape)
	same(t, "Delta of 121 rows without values", join.Delta(single(), api.Delta{Rows: make([]api.Row, 121)}), api.ErrLimit)
	same(t, "Delta of 120 rows without values", join.Delta(single(), api.Delta{Rows: make([]api.Row, 120)}), api.ErrShape)
}

// TestCheckOrder checks that all errors of a table come before those of the next one.
func TestCheckOrder(t *testing.T) {
	same(t, "Check", join.Check(shop(), sold()), api.OK)
	d := sold()
	d[2] = []api.Row{row(1, "a")}
	same(t, "an error in the last table", join.Check(shop(), d), api.ErrShape)
	d[1] = make([]api.Row, 61)
	same(t, "an error in the table before", join.Check(shop(), d), api.ErrLimit)
	d[0][5].Values[0] = "2"
	d[0][5].Values[1] = "A"
	same(t, "an error in the first table", join.Check(shop(), d), api.ErrValue)
	d[0][0].Weight = 101
	same(t, "an error in its first row", join.Check(shop(), d), api.ErrWeight)
	same(t, "Table looks at its relation", join.Table(shop(), 2, sold()[2]), api.OK)
	same(t, "a table of another relation", join.Table(shop(), 0, sold()[1]), api.ErrValue)
	same(t, "a table of another length", join.Table(shop(), 2, sold()[1]), api.ErrShape)
	same(t, "Delta looks at its relation", join.Delta(shop(), api.Delta{Relation: 2, Rows: sold()[2]}), api.OK)
	same(t, "a delta of another length", join.Delta(shop(), api.Delta{Relation: 2, Rows: sold()[1]}), api.ErrShape)
}

func TestSort(t *testing.T) {
	for _, x := range []struct{ rows, want []api.Row }{
		{nil, nil},
		{[]api.Row{row(1, "b"), row(2, "a")}, []api.Row{row(2, "a"), row(1, "b")}},
		{[]api.Row{row(1, "b"), row(2, "a"), row(5, "b")}, []api.Row{row(2, "a"), row(6, "b")}},
		{[]api.Row{row(1, "b"), row(2, "a"), row(-1, "b")}, []api.Row{row(2, "a")}},
		{[]api.Row{row(0, "b"), row(-2, "a")}, []api.Row{row(-2, "a")}},
		{[]api.Row{row(1, "b"), row(-1, "b")}, nil},
		{[]api.Row{row(3, "b"), row(-1, "b"), row(-2, "b"), row(4, "b")}, []api.Row{row(4, "b")}},
		{[]api.Row{row(1), row(2, ""), row(3), row(4, "", "")}, []api.Row{row(4), row(2, ""), row(4, "", "")}},
		{[]api.Row{{Values: nil, Weight: 1}, {Values: []string{}, Weight: 2}}, []api.Row{row(3)}},
		{[]api.Row{row(-1000, "é"), row(1000, "not", "A", "value!")}, []api.Row{row(1000, "not", "A", "value!"), row(-1000, "é")}},
	} {
		same(t, "Sort of "+text(x.rows), join.Sort(x.rows), x.want)
	}
}

// TestSortOfMany compares Sort with a map of weights.
func TestSortOfMany(t *testing.T) {
	r := rand.New(rand.NewSource(6))
	for range 300 {
		weights := map[[2]string]int{}
		var l []api.Row
		for range r.Intn(200) {
			key, weight := [2]string{fmt.Sprint(r.Intn(12)), fmt.Sprint(r.Intn(5))}, r.Intn(7)-3
			weights[key] += weight
			l = append(l, row(weight, key[:]...))
		}
		var want []api.Row
		for key, weight := range weights {
			if weight != 0 {
				want = append(want, row(weight, key[:]...))
			}
		}
		slices.SortFunc(want, func(a, b api.Row) int {
			return strings.Compare(a.Values[0]+" "+a.Values[1], b.Values[0]+" "+b.Values[1])
		})
		same(t, "Sort", join.Sort(l), want)
	}
}

func TestLive(t *testing.T) {
	d := sold()
	same(t, "Live sales", join.Live(shop(), 0, d[0]), []api.Row{d[0][2], d[0][3], d[0][4], d[0][5]})
	same(t, "Live items", join.Live(shop(), 1, d[1]), []api.Row{d[1][1], d[1][2], d[1][3]})
	same(t, "Live stores", join.Live(shop(), 2, d[2]), []api.Row{d[2][1], d[2][2], d[2][3]})
	same(t, "Live of no rows", join.Live(shop(), 2, nil), []api.Row{})
	same(t, "Live of rows that are not live", join.Live(shop(), 2, d[2][:1]), []api.Row{})
	same(t, "Live without join attributes", join.Live(single(), 0, []api.Row{row(1, ""), row(2, "1")}), []api.Row{row(1, ""), row(2, "1")})
	for _, x := range rowErrors {
		same(t, "Live, "+x.name, join.Live(shop(), 1, x.rows), []api.Row{})
	}
	for _, r := range []int{-1, 3} {
		same(t, fmt.Sprint("Live of relation ", r), join.Live(shop(), r, nil), []api.Row{})
		same(t, fmt.Sprint("Live of relation ", r), join.Live(shop(), r, d[1]), []api.Row{})
	}
	same(t, "Live without a schema", join.Live(broken(), 1, d[1]), []api.Row{})
	same(t, "Live of a delta", join.Live(shop(), 2, []api.Row{row(-1, "a", "")}), []api.Row{})
	same(t, "Live of too many", join.Live(single(), 0, keys(61, 1)), []api.Row{})
	same(t, "Live of many", join.Live(single(), 0, keys(60, 1)), keys(60, 1))
}

// TestLiveOfAll compares Live with its definition for each row of sold and each schema in which other attributes are shared.
func TestLiveOfAll(t *testing.T) {
	for a := range 6 {
		s := shop()
		for i, r := range s.Relations {
			if !slices.Contains(r.Attributes, a) {
				s.Relations[i].Attributes = append(slices.Clone(r.Attributes), a)
				slices.Sort(s.Relations[i].Attributes)
			}
		}
		joined := schema.Joined(s)
		for i, r := range s.Relations {
			for missing := range 1 << len(r.Attributes) {
				values := make([]string, len(r.Attributes))
				want := []api.Row{row(1, values...)}
				for place, b := range r.Attributes {
					if missing&(1<<place) == 0 {
						values[place] = map[int]string{api.KindKey: "1", api.KindNumber: "1/2", api.KindCategory: "c"}[s.Attributes[b].Kind]
					} else if slices.Contains(joined, b) {
						want = nil
					}
				}
				same(t, fmt.Sprint("Live of relation ", i, " ", values), join.Live(s, i, []api.Row{row(1, values...)}), want)
			}
		}
	}
}
