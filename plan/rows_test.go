package plan

import (
	"reflect"
	"testing"

	"quarry/api"
	"quarry/syntax"
)

func tables() []api.Table {
	return []api.Table{
		{Name: "t", Columns: []string{"a", "b"}, Rows: [][]int{{2, 9}, {1, 8}}},
		{Name: "u", Columns: []string{"c"}, Rows: [][]int{{7}, {3}, {5}}},
		{Name: "none", Columns: []string{"a"}},
	}
}

// mustMean gives the main select of a text, with what its names mean.
func mustMean(t *testing.T, text string) *selection {
	t.Helper()
	q, err := syntax.Read(text)
	if err != nil {
		t.Fatal(err)
	}
	s, err := meaning(q.Main, tables())
	if err != nil {
		t.Fatal(err)
	}
	return s
}

// checkOrder: these rows, as they are ahead of being sorted.
func checkOrder(t *testing.T, text string, want [][]int) {
	t.Helper()
	rows, err := mustMean(t, text).rows()
	if err != nil || len(rows) != len(want) || len(want) > 0 && !reflect.DeepEqual(rows, want) {
		t.Errorf("%q: rows %v, %v, want %v", text, rows, err, want)
	}
}

func TestOrderOfRows(t *testing.T) { // P8
	checkOrder(t, "select x.a, x.b from t x", [][]int{{2, 9}, {1, 8}})
	checkOrder(t, "select x.c from u x", [][]int{{7}, {3}, {5}})
	checkOrder(t, "select x.c from u x where x.c <> 3", [][]int{{7}, {5}})
	checkOrder(t, "select x.a, y.c from t x, u y", [][]int{{2, 7}, {2, 3}, {2, 5}, {1, 7}, {1, 3}, {1, 5}})
	checkOrder(t, "select x.a, y.c from u y, t x", [][]int{{2, 7}, {1, 7}, {2, 3}, {1, 3}, {2, 5}, {1, 5}})
	checkOrder(t, "select x.a, y.a from t x, t y", [][]int{{2, 2}, {2, 1}, {1, 2}, {1, 1}})
	checkOrder(t, "select x.a, y.c, z.b from t x, u y, t z", [][]int{
		{2, 7, 9}, {2, 7, 8}, {2, 3, 9}, {2, 3, 8}, {2, 5, 9}, {2, 5, 8},
		{1, 7, 9}, {1, 7, 8}, {1, 3, 9}, {1, 3, 8}, {1, 5, 9}, {1, 5, 8},
	})
	checkOrder(t, "select x.a, y.c, z.b from t x, u y, t z where y.c < 6 and z.b <> 9", [][]int{{2, 3, 8}, {2, 5, 8}, {1, 3, 8}, {1, 5, 8}})
	checkOrder(t, "select 1 from none x", nil)
	checkOrder(t, "select 1 from t x, none y, u z", nil)
}

func TestTablesStay(t *testing.T) { // P2: answers are worked out without writing into tables
	kept := tables()
	for _, text := range []string{
		"select x.b, x.a from t x",
		"select x.c, y.a from u x, t y where x.c > y.a",
		"select x.z from t x",
	} {
		q, err := syntax.Read(text)
		if err != nil {
			t.Fatal(err)
		}
		a, _ := Answer(q, kept)
		for _, row := range a.Rows {
			clear(row[:cap(row)])
		}
		if !reflect.DeepEqual(kept, tables()) {
			t.Fatalf("%q has made of the tables %v", text, kept)
		}
	}
}
