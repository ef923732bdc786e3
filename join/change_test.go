package join_test

import (
	"fmt"
	"math/rand"
	"testing"

	"joinlearn/api"
	"joinlearn/join"
)

// applied compares Apply with what is expected.
func applied(t *testing.T, name string, s api.Schema, d api.Database, x api.Delta, want api.Database, e api.Errno) {
	t.Helper()
	got, gotError := join.Apply(s, d, x)
	same(t, "Apply, "+name, got, want)
	same(t, "Apply, error, "+name, gotError, e)
}

// between compares Between with what is expected.
func between(t *testing.T, name string, s api.Schema, a, b api.Database, want []api.Delta, e api.Errno) {
	t.Helper()
	got, gotError := join.Between(s, a, b)
	same(t, "Between, "+name, got, want)
	same(t, "Between, error, "+name, gotError, e)
}

func TestApply(t *testing.T) {
	change := api.Delta{Relation: 2, Rows: []api.Row{row(-1, "", "rome"), row(2, "a", ""), row(-1, "a", "oslo"), row(100, "a", "rome"), row(4, "c", "oslo")}}
	want := sold()
	want[2] = []api.Row{row(3, "a", ""), row(2, "a", "oslo"), row(100, "a", "rome"), row(1, "b", "rome"), row(4, "c", "oslo")}
	applied(t, "inserts, deletions and corrections", shop(), sold(), change, want, api.OK)
	applied(t, "nothing", shop(), sold(), api.Delta{Relation: 1}, sold(), api.OK)
	first := sold()
	first[0] = append([]api.Row{row(1, "", "", "")}, first[0]...)
	applied(t, "the first relation", shop(), sold(), api.Delta{Rows: []api.Row{row(1, "", "", "")}}, first, api.OK)
	removed := sold()
	removed[1] = nil
	var all []api.Row
	for _, r := range sold()[1] {
		all = append(all, row(-r.Weight, r.Values...))
	}
	applied(t, "all rows of a table", shop(), sold(), api.Delta{Relation: 1, Rows: all}, removed, api.OK)
	applied(t, "no rows and nothing", single(), api.Database{nil}, api.Delta{}, api.Database{nil}, api.OK)
}

// TestApplyWeights goes through weights of a row before and in a delta.
func TestApplyWeights(t *testing.T) {
	for _, before := range []int{0, 1, 2, 50, 99, 100} {
		for _, change := range []int{-100, -99, -51, -50, -2, -1, 1, 2, 50, 51, 99, 100} {
			d, want, e := api.Database{nil}, api.Database{nil}, api.OK
			if before > 0 {
				d = api.Database{keys(1, before)}
			}
			switch sum := before + change; {
			case sum < 0 || sum > 100:
				want, e = nil, api.ErrWeight
			case sum > 0:
				want = api.Database{keys(1, sum)}
			}
			applied(t, fmt.Sprint(before, " and ", change), single(), d, api.Delta{Rows: keys(1, change)}, want, e)
		}
	}
}

// TestApplyErrors goes through the errors in their order; each case has all errors behind its own as well, if it can.
func TestApplyErrors(t *testing.T) {
	full := api.Database{keys(60, 1)}
	more := func(weight int) []api.Row { return append(keys(1, weight), row(1, "7")) }
	for _, x := range []struct {
		name string
		s    api.Schema
		d    api.Database
		x    api.Delta
		e    api.Errno
	}{
		{"schema", broken(), api.Database{keys(61, 0)}, api.Delta{Relation: 9, Rows: keys(121, 0)}, api.ErrName},
		{"number of tables", single(), api.Database{full[0], nil}, api.Delta{Relation: -1, Rows: keys(121, 0)}, api.ErrShape},
		{"rows of a table", single(), api.Database{keys(61, 1)}, api.Delta{Relation: -1, Rows: more(-2)}, api.ErrLimit},
		{"weight in a table", single(), api.Database{keys(60, 101)}, api.Delta{Relation: 1, Rows: more(-101)}, api.ErrWeight},
		{"no such relation", single(), full, api.Delta{Relation: 1, Rows: keys(121, -2)}, api.ErrRange},
		{"rows of a delta", single(), full, api.Delta{Rows: append(keys(120, -2), row(0, "x", "y"))}, api.ErrLimit},
		{"shape in a delta", single(), full, api.Delta{Rows: append(more(-2), row(0, "x", "y"))}, api.ErrShape},
		{"value in a delta", single(), full, api.Delta{Rows: append(more(-2), row(0, "x"))}, api.ErrValue},
		{"weight in a delta", single(), full, api.Delta{Rows: append(more(-2), row(0, "6"))}, api.ErrWeight},
		{"order in a delta", single(), full, api.Delta{Rows: append(more(-2), row(1, "6"))}, api.ErrOrder},
		{"negative weight", single(), full, api.Delta{Rows: append(more(-2), row(1, "8"))}, api.ErrWeight},
		{"negative weight of a row that is not there", single(), full, api.Delta{Rows: append(more(1), row(-1, "8"))}, api.ErrWeight},
		{"weight too great", single(), full, api.Delta{Rows: append(more(100), row(1, "8"))}, api.ErrWeight},
		{"too many rows", single(), full, api.Delta{Rows: more(1)}, api.ErrLimit},
	} {
		applied(t, x.name, x.s, x.d, x.x, nil, x.e)
	}
}

// TestApplyAllAtOnce checks that rows that vanish make room for others in the same delta.
func TestApplyAllAtOnce(t *testing.T) {
	full := api.Database{keys(60, 1)}
	applied(t, "one more, one less", single(), full, api.Delta{Rows: append(keys(1, -1), row(1, "7"))}, api.Database{append(keys(60, 1)[1:], row(1, "7"))}, api.OK)
	var exchange, others []api.Row
	for i, r := range full[0] {
		others = append(others, row(100, fmt.Sprint(200+i)))
		exchange = append(exchange, row(-1, r.Values...))
	}
	exchange = append(exchange, others...)
	applied(t, "all exchanged", single(), full, api.Delta{Rows: exchange}, api.Database{others}, api.OK)
	between(t, "all exchanged", single(), full, api.Database{others}, []api.Delta{{Rows: exchange}}, api.OK)
	applied(t, "as many as fit", single(), api.Database{nil}, api.Delta{Rows: keys(60, 1)}, full, api.OK)
	applied(t, "one more than fits", single(), api.Database{nil}, api.Delta{Rows: keys(61, 1)}, nil, api.ErrLimit)
}

func TestBetween(t *testing.T) {
	between(t, "the same", shop(), sold(), sold(), nil, api.OK)
	other := sold()
	other[0] = other[0][1:]
	other[0][1].Weight = 100
	other[2] = append([]api.Row{row(1, "", "oslo")}, other[2]...)
	other[2][4].Weight = 1
	want := []api.Delta{
		{Relation: 0, Rows: []api.Row{row(-2, "", "a", "1"), row(97, "1", "a", "4")}},
		{Relation: 2, Rows: []api.Row{row(1, "", "oslo")}},
	}
	between(t, "two tables", shop(), sold(), other, want, api.OK)
	between(t, "to nothing", shop(), api.Database{nil, nil, {row(3, "a", "oslo")}}, make(api.Database, 3), []api.Delta{{Relation: 2, Rows: []api.Row{row(-3, "a", "oslo")}}}, api.OK)
	between(t, "from nothing", shop(), make(api.Database, 3), api.Database{nil, {row(3, "1", "", "")}, nil}, []api.Delta{{Relation: 1, Rows: []api.Row{row(3, "1", "", "")}}}, api.OK)
	between(t, "between the bounds", single(), api.Database{keys(1, 100)}, api.Database{keys(1, 1)}, []api.Delta{{Rows: keys(1, -99)}}, api.OK)
}

func TestBetweenErrors(t *testing.T) {
	shapeless, heavy := api.Database{}, sold()
	heavy[1][1].Weight = 101
	between(t, "schema", broken(), shapeless, heavy, nil, api.ErrName)
	between(t, "the first one", shop(), shapeless, heavy, nil, api.ErrShape)
	between(t, "the first one of the other two", shop(), heavy, shapeless, nil, api.ErrWeight)
	between(t, "only the first one", shop(), heavy, sold(), nil, api.ErrWeight)
	between(t, "only the second one", shop(), sold(), shapeless, nil, api.ErrShape)
	between(t, "only the second one again", shop(), sold(), heavy, nil, api.ErrWeight)
}

// TestChangeConsequences checks on pairs of databases that Apply of Between leads from one to the other, whatever the order of the deltas, and that these are deltas.
func TestChangeConsequences(t *testing.T) {
	r := rand.New(rand.NewSource(7))
	for range 200 {
		s := pseudoRandom(r)
		a, b := randomDatabase(r, s, 20), randomDatabase(r, s, 20)
		deltas, e := join.Between(s, a, b)
		same(t, "error of Between", e, api.OK)
		forwards, backwards := a, a
		for i := range deltas {
			for _, x := range []struct {
				d *api.Database
				x api.Delta
			}{{&forwards, deltas[i]}, {&backwards, deltas[len(deltas)-1-i]}} {
				same(t, "Delta", join.Delta(s, x.x), api.OK)
				if *x.d, e = join.Apply(s, *x.d, x.x); e != api.OK {
					t.Fatalf("Apply of Between: error %d", e)
				}
			}
			if i > 0 && deltas[i].Relation <= deltas[i-1].Relation {
				t.Errorf("deltas are not ascending: %v", deltas)
			}
		}
		same(t, "Apply of Between", forwards, b)
		same(t, "Apply of Between, backwards", backwards, b)
	}
}
