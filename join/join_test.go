package join_test

import (
	"fmt"
	"math/rand"
	"slices"
	"testing"
	"time"

	"joinlearn/api"
	"joinlearn/join"
	"joinlearn/schema"
)

// pseudoRandom returns a valid schema whose relations are pseudo-random.
func pseudoRandom(r *rand.Rand) api.Schema {
	for {
		s := api.Schema{Label: -1}
		for i := range 1 + r.Intn(6) {
			s.Attributes = append(s.Attributes, api.Attribute{Name: fmt.Sprint("a", i), Kind: 1 + r.Intn(3)})
		}
		for i := range 1 + r.Intn(4) {
			relation := api.Relation{Name: fmt.Sprint("r", i)}
			for a := range s.Attributes {
				if r.Intn(2) == 0 {
					relation.Attributes = append(relation.Attributes, a)
				}
			}
			s.Relations = append(s.Relations, relation)
		}
		if schema.Check(s) == api.OK {
			return s
		}
	}
}

// randomDatabase returns tables of up to some rows. Most rows are parts of the same few tuples, so that many of them agree.
func randomDatabase(r *rand.Rand, s api.Schema, most int) api.Database {
	tuples := [][]string{randomTuple(r, s), randomTuple(r, s), randomTuple(r, s), randomTuple(r, s)}
	d := make(api.Database, len(s.Relations))
	for i, relation := range s.Relations {
		for range 1 + r.Intn(most) {
			whole := tuples[r.Intn(len(tuples))]
			if r.Intn(4) == 0 {
				whole = randomTuple(r, s)
			}
			var values []string
			for _, a := range relation.Attributes {
				values = append(values, whole[a])
			}
			d[i] = append(d[i], row(1, values...))
		}
		d[i] = join.Sort(d[i])
		for k := range d[i] {
			d[i][k].Weight = 1 + r.Intn(100)
		}
	}
	return d
}

// randomTuple returns one of a few values for each attribute.
func randomTuple(r *rand.Rand, s api.Schema) []string {
	var values []string
	for _, a := range s.Attributes {
		possible := [][]string{api.KindKey: {"10", "9", "-1"}, api.KindNumber: {"10", "-1/2", "9"}, api.KindCategory: {"a", "b", "a-1"}}[a.Kind]
		v := possible[r.Intn(3)]
		if r.Intn(12) == 0 {
			v = ""
		}
		values = append(values, v)
	}
	return values
}

// textbook returns the join as it is defined: it goes through all choices of rows.
func textbook(s api.Schema, d api.Database) []api.Row {
	unknown := "?"
	start := row(1)
	for range s.Attributes {
		start.Values = append(start.Values, unknown)
	}
	tuples := []api.Row{start}
	joined := schema.Joined(s)
	for i, relation := range s.Relations {
		var longer []api.Row
		for _, t := range tuples {
			for _, r := range d[i] {
				values, agree := slices.Clone(t.Values), true
				for k, a := range relation.Attributes {
					if slices.Contains(joined, a) && r.Values[k] == "" || values[a] != unknown && values[a] != r.Values[k] {
						agree = false
					}
					values[a] = r.Values[k]
				}
				if agree {
					longer = append(longer, row(t.Weight*r.Weight, values...))
				}
			}
		}
		tuples = longer
	}
	slices.SortFunc(tuples, func(a, b api.Row) int { return slices.Compare(a.Values, b.Values) })
	return tuples
}

// joins compares Build and Size with what is expected.
func joins(t *testing.T, name string, s api.Schema, d api.Database, want []api.Row) {
	t.Helper()
	got, e := join.Build(s, d)
	same(t, "Build, "+name, got, want)
	same(t, "Build, error, "+name, e, api.OK)
	size, e := join.Size(s, d)
	same(t, "Size, "+name, size, api.Int(fmt.Sprint(len(want))))
	same(t, "Size, error, "+name, e, api.OK)
}

// fails checks that Build and Size have an error.
func fails(t *testing.T, name string, s api.Schema, d api.Database, want api.Errno) {
	t.Helper()
	rows, e := join.Build(s, d)
	same(t, "Build, "+name, rows, []api.Row{})
	same(t, "Build, error, "+name, e, want)
	size, e := join.Size(s, d)
	same(t, "Size, "+name, size, api.Int(""))
	same(t, "Size, error, "+name, e, want)
}

// related returns a schema of keys a, b, .. with relations, each of which is written as the names of its attributes.
func related(attributes int, relations ...string) api.Schema {
	s := api.Schema{Label: -1}
	for i := range attributes {
		s.Attributes = append(s.Attributes, api.Attribute{Name: string(rune('a' + i)), Kind: api.KindCategory})
	}
	for i, names := range relations {
		relation := api.Relation{Name: fmt.Sprint("r", i)}
		for _, name := range names {
			relation.Attributes = append(relation.Attributes, int(name-'a'))
		}
		s.Relations = append(s.Relations, relation)
	}
	return s
}

func TestExample(t *testing.T) {
	s := related(3, "ab", "bc")
	s.Attributes[0].Kind, s.Attributes[2].Kind = api.KindKey, api.KindNumber
	joins(t, "the example", s, api.Database{{row(2, "1", "x")}, {row(3, "x", "2")}}, []api.Row{row(6, "1", "x", "2")})
}

func TestJoin(t *testing.T) {
	joins(t, "shop", shop(), sold(), []api.Row{
		row(6, "1", "a", "3/4", "red", "", "4"), row(18, "1", "a", "3/4", "red", "oslo", "4"),
		row(3, "1", "a", "3/4", "white", "", "4"), row(9, "1", "a", "3/4", "white", "oslo", "4"),
		row(2, "1", "b", "3/4", "red", "rome", ""), row(1, "1", "b", "3/4", "white", "rome", ""),
		row(20, "2", "a", "", "", "", "-1/2"), row(60, "2", "a", "", "", "oslo", "-1/2"),
	})
	joins(t, "one relation", single(), api.Database{{row(4, ""), row(5, "1")}}, []api.Row{row(4, ""), row(5, "1")})
	joins(t, "one empty relation", single(), api.Database{nil}, nil)
	for i := range 3 {
		d := sold()
		d[i] = nil
		joins(t, fmt.Sprint("without the table ", i), shop(), d, nil)
	}
	joins(t, "without rows", shop(), make(api.Database, 3), nil)
	joins(t, "relations with the same attributes", related(2, "ab", "ab"), api.Database{{row(2, "x", "y"), row(3, "x", "z")}, {row(5, "x", "z"), row(7, "y", "z")}}, []api.Row{row(15, "x", "z")})
	joins(t, "relations that share nothing", related(2, "b", "a"), api.Database{{row(2, ""), row(3, "x")}, {row(5, ""), row(7, "y")}}, []api.Row{row(10, "", ""), row(15, "", "x"), row(14, "y", ""), row(21, "y", "x")})
	joins(t, "relations that share nothing, one of them empty", related(2, "b", "a"), api.Database{nil, {row(5, ""), row(7, "y")}}, nil)
	joins(t, "a triangle", related(3, "ab", "bc", "ac"), api.Database{{row(2, "x", "x"), row(1, "x", "y"), row(1, "y", "y")}, {row(3, "x", "x"), row(1, "y", "z")}, {row(5, "x", "x"), row(1, "z", "z")}}, []api.Row{row(30, "x", "x", "x")})
	joins(t, "missing in all relations", related(3, "ab", "bc"), api.Database{{row(1, "x", "")}, {row(1, "", "y")}}, nil)
	joins(t, "missing elsewhere", related(3, "ab", "bc"), api.Database{{row(1, "", "x")}, {row(1, "x", "")}}, []api.Row{row(1, "", "x", "")})
	joins(t, "the greatest weight", related(7, "ab", "ac", "ad", "ae", "af", "ag"), api.Database{{row(100, "x", "y")}, {row(100, "x", "y")}, {row(100, "x", "y")}, {row(100, "x", "y")}, {row(100, "x", "y")}, {row(100, "x", "y")}}, []api.Row{row(1000000000000, "x", "y", "y", "y", "y", "y", "y")})
}

// TestTextbook compares the join with its definition.
func TestTextbook(t *testing.T) {
	r := rand.New(rand.NewSource(8))
	tuples, empty := 0, 0
	for range 500 {
		s := pseudoRandom(r)
		d := randomDatabase(r, s, 30)
		want := textbook(s, d)
		tuples += len(want)
		if len(want) == 0 {
			empty++
		}
		if len(want) <= api.MaxJoin {
			joins(t, text(d), s, d, want)
		}
	}
	if tuples < 3000 || empty > 100 {
		t.Errorf("there are too few tuples: %d tuples, and %d joins without tuples", tuples, empty)
	}
}

// sized returns a schema of two relations that share nothing, with tables of m and n rows.
func sized(m, n int) (api.Schema, api.Database) {
	s := related(2, "a", "b")
	s.Attributes[0].Kind, s.Attributes[1].Kind = api.KindKey, api.KindKey
	return s, api.Database{keys(m, 1), keys(n, 1)}
}

// TestMaxJoin goes through joins just at and beyond the limit.
func TestMaxJoin(t *testing.T) {
	for _, x := range []struct{ m, n int }{{50, 40}, {40, 50}, {60, 33}, {1, 60}} {
		s, d := sized(x.m, x.n)
		joins(t, fmt.Sprint(x), s, d, textbook(s, d))
	}
	for _, x := range []struct{ m, n int }{{51, 40}, {46, 44}, {60, 60}} {
		s, d := sized(x.m, x.n)
		rows, e := join.Build(s, d)
		same(t, fmt.Sprint("Build, ", x), rows, []api.Row{})
		same(t, fmt.Sprint("Build, error, ", x), e, api.ErrLimit)
		size, e := join.Size(s, d)
		same(t, "Size", size, api.Int(fmt.Sprint(x.m*x.n)))
		same(t, "Size, error", e, api.OK)
	}
	exactly(t, 2000, api.OK)
	exactly(t, 2001, api.ErrLimit)
}

// exactly checks the error of a join of 2000 or 2001 tuples.
func exactly(t *testing.T, n int, want api.Errno) {
	s := related(3, "ab", "ac")
	d := make(api.Database, 2)
	for i := range 60 {
		d[0] = append(d[0], row(1, map[bool]string{true: "x", false: "y"}[i < 40], fmt.Sprintf("b%02d", i)))
		if i < 50 {
			d[1] = append(d[1], row(1, "x", fmt.Sprintf("c%02d", i)))
		}
	}
	if n == 2001 {
		d[0][59].Values[0] = "z"
		d[1] = append(d[1], row(1, "z", "c"))
	}
	same(t, fmt.Sprint("size ", n), len(textbook(s, d)), n)
	rows, e := join.Build(s, d)
	same(t, fmt.Sprint("error of ", n), e, want)
	if e == api.OK {
		same(t, fmt.Sprint("join of ", n), rows, textbook(s, d))
	}
}

// diagonal returns n different rows in each of which all values are equal.
func diagonal(n, attributes int) []api.Row {
	var l []api.Row
	for i := range n {
		l = append(l, row(1, slices.Repeat([]string{fmt.Sprintf("v%02d", i)}, attributes)...))
	}
	return l
}

// star returns n different rows with the same value of the first attribute.
func star(n int) []api.Row {
	var l []api.Row
	for i := range n {
		l = append(l, row(1, "x", fmt.Sprintf("v%02d", i)))
	}
	return l
}

// TestGreatJoins counts the tuples of joins that could never be built, or in which a way through the relations could come to far more values than there are tuples. It must not take long.
func TestGreatJoins(t *testing.T) {
	d60, s60 := diagonal(60, 1), star(60)
	for _, x := range []struct {
		name string
		s    api.Schema
		d    api.Database
		want api.Int
	}{
		{"nothing is shared", related(6, "a", "b", "c", "d", "e", "f"), api.Database{d60, d60, d60, d60, d60, d60}, "46656000000"},
		{"one attribute is shared", related(7, "ab", "ac", "ad", "ae", "af", "ag"), api.Database{s60, s60, s60, s60, s60, s60}, "46656000000"},
		{"pairs behind all first ones", related(6, "a", "b", "c", "ad", "be", "cf"), api.Database{d60, d60, d60, diagonal(60, 2), diagonal(60, 2), diagonal(60, 2)}, "216000"},
		{"four first ones", related(4, "a", "b", "c", "d", "ab", "cd"), api.Database{d60, d60, d60, d60, diagonal(60, 2), diagonal(60, 2)}, "3600"},
		{"four branches of a star", related(7, "abcd", "abce", "abcf", "abcg", "de", "fg"), api.Database{branches(60), branches(60), branches(60), branches(60), diagonal(60, 2), diagonal(60, 2)}, "3600"},
		{"branches that end nowhere", related(7, "abcd", "abce", "abcf", "abcg", "de", "fg"), api.Database{branches(60), branches(60), branches(60), branches(60), diagonal(60, 2), {row(1, "v00", "v01")}}, "60"},
		{"three and three", related(9, "abc", "def", "ghi", "adg", "beh", "cfi"), api.Database{cube(60), cube(60), cube(60), cube(60), cube(60), cube(60)}, ""},
		{"a ring", related(6, "ab", "bc", "cd", "de", "ef", "af"), api.Database{diagonal(60, 2), diagonal(60, 2), diagonal(60, 2), diagonal(60, 2), diagonal(60, 2), diagonal(60, 2)}, "60"},
	} {
		begin := time.Now()
		size, e := join.Size(x.s, x.d)
		same(t, "error, "+x.name, e, api.OK)
		if x.want != "" {
			same(t, x.name, size, x.want)
		}
		if took := time.Since(begin); took > 10*time.Second {
			t.Errorf("%s: counting took %v", x.name, took)
		}
		if rows, e := join.Build(x.s, x.d); len(x.want) > 4 {
			same(t, "Build, "+x.name, rows, []api.Row{})
			same(t, "Build, error, "+x.name, e, api.ErrLimit)
		}
	}
}

// branches returns n rows that differ only in the last one of four attributes.
func branches(n int) []api.Row {
	var l []api.Row
	for _, r := range diagonal(n, 1) {
		l = append(l, row(1, "x", "x", "x", r.Values[0]))
	}
	return l
}

// cube returns n of the 64 different rows of three attributes with four values each.
func cube(n int) []api.Row {
	var l []api.Row
	for i := range n {
		l = append(l, row(1, fmt.Sprint("v", i/16), fmt.Sprint("v", i/4%4), fmt.Sprint("v", i%4)))
	}
	return l
}

// TestJoinErrors goes through the errors of Build and Size.
func TestJoinErrors(t *testing.T) {
	fails(t, "schema", broken(), make(api.Database, 9), api.ErrName)
	fails(t, "the empty schema", api.Schema{}, nil, api.ErrLimit)
	fails(t, "number of tables", shop(), sold()[:2], api.ErrShape)
	for _, x := range rowErrors {
		fails(t, x.name, shop(), api.Database{nil, x.rows, nil}, x.want)
	}
	s, d := sized(60, 60)
	d[1][59].Weight = 101
	fails(t, "weight in a join that is too great", s, d, api.ErrWeight)
}

// TestArguments checks that no function changes its arguments, and that results share no memory with them or within themselves.
func TestArguments(t *testing.T) {
	s, d, x := shop(), sold(), api.Delta{Relation: 2, Rows: []api.Row{row(1, "a", "rome"), row(2, "c", "")}}
	other := sold()
	other[1] = other[1][1:]
	mixed := []api.Row{row(1, "b"), row(2, "a"), row(-1, "b"), row(3, "c")}
	before := text([]any{s, d, x, other, mixed})
	applied, _ := join.Apply(s, d, x)
	deltas, _ := join.Between(s, other, d)
	built, _ := join.Build(s, d)
	join.Size(s, d)
	join.Check(s, d)
	join.Delta(s, x)
	lists := [][]api.Row{join.Sort(mixed), join.Sort(d[0]), join.Live(s, 0, d[0]), join.Live(s, 2, d[2]), built}
	lists = append(lists, applied...)
	for _, delta := range deltas {
		lists = append(lists, delta.Rows)
	}
	for _, l := range lists {
		scribble(t, l)
	}
	for i := range applied {
		applied[i] = nil
	}
	same(t, "arguments", text([]any{s, d, x, other, mixed}), before)
}

// scribble writes into all rows of a result and behind them, and checks that each row is changed by this once.
func scribble(t *testing.T, l []api.Row) {
	if len(l) == 0 {
		t.Error("there is no result")
	}
	_ = append(l, row(999, "behind"))
	for i, r := range l {
		if r.Weight == 999 || slices.Contains(r.Values, "written") {
			t.Errorf("row %d shares memory: %v", i, r)
		}
		_ = append(r.Values, "written", "written")
		for k := range r.Values {
			r.Values[k] = "written"
		}
		l[i].Weight = 999
	}
}
