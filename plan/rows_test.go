package plan

import (
	"reflect"
	"testing"

	"quarry/api"
	"quarry/syntax"
)

func tables() []api.Table {
	return []api.Table{
		{Name: "t", Columns: []string{"a", "b"}, Rows: [][]int{{2, 9}, {1, 8}}},
		{Name: "u", Columns: []string{"c"}, Rows: [][]int{{7}, {3}, {5}}},
		{Name: "none", Columns: []string{"a"}},
	}
}

// mustMean gives a query with what its names mean.
func mustMean(t *testing.T, text string) *whole {
	t.Helper()
	q, err := syntax.Read(text)
	if err != nil {
		t.Fatal(err)
	}
	w, err := meaning(q, tables())
	if err != nil {
		t.Fatal(err)
	}
	return w
}

// checkOrder: these rows, as they are ahead of being sorted.
func checkOrder(t *testing.T, text string, want [][]int) {
	t.Helper()
	rows, err := mustMean(t, text).rows()
	if err != nil || len(rows) != len(want) || len(want) > 0 && !reflect.DeepEqual(rows, want) {
		t.Errorf("%q: rows %v, %v, want %v", text, rows, err, want)
	}
}

func TestOrderOfRows(t *testing.T) { // P8
	checkOrder(t, "select x.a, x.b from t x", [][]int{{2, 9}, {1, 8}})
	checkOrder(t, "select x.c from u x", [][]int{{7}, {3}, {5}})
	checkOrder(t, "select x.c from u x where x.c <> 3", [][]int{{7}, {5}})
	checkOrder(t, "select x.a, y.c from t x, u y", [][]int{{2, 7}, {2, 3}, {2, 5}, {1, 7}, {1, 3}, {1, 5}})
	checkOrder(t, "select x.a, y.c from u y, t x", [][]int{{2, 7}, {1, 7}, {2, 3}, {1, 3}, {2, 5}, {1, 5}})
	checkOrder(t, "select x.a, y.a from t x, t y", [][]int{{2, 2}, {2, 1}, {1, 2}, {1, 1}})
	checkOrder(t, "select x.a, y.c, z.b from t x, u y, t z", [][]int{
		{2, 7, 9}, {2, 7, 8}, {2, 3, 9}, {2, 3, 8}, {2, 5, 9}, {2, 5, 8},
		{1, 7, 9}, {1, 7, 8}, {1, 3, 9}, {1, 3, 8}, {1, 5, 9}, {1, 5, 8},
	})
	checkOrder(t, "select x.a, y.c, z.b from t x, u y, t z where y.c < 6 and z.b <> 9", [][]int{{2, 3, 8}, {2, 5, 8}, {1, 3, 8}, {1, 5, 8}})
	checkOrder(t, "select 1 from none x", nil)
	checkOrder(t, "select 1 from t x, none y, u z", nil)
}

func TestOrderOfWith(t *testing.T) { // P10: the rows of the table that `with` makes are gone through sorted
	checkOrder(t, "with r(n) as (select x.c from u x union select 10 - r.n from r r) select r.n from r r", [][]int{{3}, {5}, {7}})
	checkOrder(t, "with r(n) as (select 1 from t x union select r.n - 1 from r r where r.n > -2) select r.n from r r", [][]int{{-2}, {-1}, {0}, {1}})
	checkOrder(t, "with r(a, b) as (select x.c, 0 from u x union select 5, y.b from t y) select r.a, r.b from r r", [][]int{{3, 0}, {5, 0}, {5, 8}, {5, 9}, {7, 0}})
	checkOrder(t, "with r(n) as (select x.c from u x union select 3 from t x) select x.a, r.n from t x, r r where r.n > 3", [][]int{{2, 5}, {2, 7}, {1, 5}, {1, 7}})
}

func TestOrderOfWindows(t *testing.T) { // P9: a window orders rows for itself alone
	checkOrder(t, "select x.c, row_number() over (order by x.c) from u x", [][]int{{7, 3}, {3, 1}, {5, 2}})
	checkOrder(t, "select row_number() over (order by x.c), x.c, row_number() over () from u x", [][]int{{3, 7, 1}, {1, 3, 2}, {2, 5, 3}})
	checkOrder(t, "select count() over () from none x", nil)
}

func TestTablesStay(t *testing.T) { // P2: answers are worked out without writing into tables, nor behind their ends
	room := append(tables(), api.Table{Name: "spare"})
	want := append(tables(), api.Table{Name: "spare"})
	for _, text := range []string{
		"select x.b, x.a from t x",
		"select x.c, y.a from u x, t y where x.c > y.a",
		"select x.z from t x",
		"select x.c, sum(x.c) over (order by x.c) from u x",
		"with r(a, b) as (select x.a, x.b from t x union select r.b, r.a from r r) select r.a, r.b from r r",
		"with r(a) as (select x.c from u x union select r.a + 1 from r r) select r.a from r r",
	} {
		q, err := syntax.Read(text)
		if err != nil {
			t.Fatal(err)
		}
		a, _ := Answer(q, room[:3])
		for _, row := range a.Rows {
			clear(row[:cap(row)])
		}
		if !reflect.DeepEqual(room, want) {
			t.Fatalf("%q has made of the tables %v", text, room)
		}
	}
}
