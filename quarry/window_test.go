package quarry

import (
	"math"
	"slices"
	"strconv"
	"strings"
	"testing"

	"quarry/api"
)

// parted: parts 1 and 2, whose rows are neither side by side nor in any order. Column i tells the order in which they came.
func parted() api.Table {
	return api.Table{Name: "t", Columns: []string{"i", "p", "k", "v"}, Rows: [][]int{
		{1, 1, 5, 10}, {2, 2, 1, 20}, {3, 1, 3, 30}, {4, 1, 5, 40}, {5, 2, 0, -5}, {6, 1, 4, 0}, {7, 2, 1, 7},
	}}
}

// checkWindow: the window's numbers, of the rows of the table t in the order in which they came.
func checkWindow(t *testing.T, q *Quarry, window string, want ...int) {
	t.Helper()
	var rows [][]int
	for i, n := range want {
		rows = append(rows, []int{i + 1, n})
	}
	checkRows(t, q, "select x.i, "+window+" from t x", rows)
}

func TestWindowExample(t *testing.T) { // the document's example 3
	q := mustNew(t, edges())
	checkRows(t, q, "select x.a, sum(x.a) over (order by x.b rows 1 preceding) as s from e x", [][]int{{1, 4}, {2, 3}, {3, 3}, {4, 6}})
}

func TestWindowCalls(t *testing.T) { // P9: without parts and without an order all rows are one part, as they came
	q := mustNew(t, parted())
	checkWindow(t, q, "row_number() over ()", 1, 2, 3, 4, 5, 6, 7)
	checkWindow(t, q, "count() over ()", 1, 2, 3, 4, 5, 6, 7)
	checkWindow(t, q, "sum(x.v) over ()", 10, 30, 60, 100, 95, 95, 102)
	checkWindow(t, q, "min(x.v) over ()", 10, 10, 10, 10, -5, -5, -5)
	checkWindow(t, q, "max(x.v) over ()", 10, 20, 30, 40, 40, 40, 40)
	checkWindow(t, q, "max(-x.v + x.p * 2) over ()", -8, -8, -8, -8, 9, 9, 9)
	checkWindow(t, q, "min((x.k)) over ()", 5, 1, 1, 1, 0, 0, 0)
	checkWindow(t, q, "sum(2) over ()", 2, 4, 6, 8, 10, 12, 14)
}

func TestParts(t *testing.T) { // P9: partition by
	q := mustNew(t, parted())
	checkWindow(t, q, "row_number() over (partition by x.p)", 1, 1, 2, 3, 2, 4, 3)
	checkWindow(t, q, "count() over (partition by x.p)", 1, 1, 2, 3, 2, 4, 3)
	checkWindow(t, q, "sum(x.v) over (partition by x.p)", 10, 20, 40, 80, 15, 80, 22)
	checkWindow(t, q, "min(x.v) over (partition by x.p)", 10, 20, 10, 10, -5, 0, -5)
	checkWindow(t, q, "max(x.v) over (partition by x.p)", 10, 20, 30, 40, 20, 40, 20)
	checkWindow(t, q, "sum(x.v) over (partition by x.p, x.k)", 10, 20, 30, 50, -5, 0, 27)
	checkWindow(t, q, "sum(x.v) over (partition by x.k, x.p)", 10, 20, 30, 50, -5, 0, 27)
	checkWindow(t, q, "row_number() over (partition by x.p, x.k, x.i)", 1, 1, 1, 1, 1, 1, 1)
	checkWindow(t, q, "row_number() over (partition by 1)", 1, 2, 3, 4, 5, 6, 7)
	checkWindow(t, q, "row_number() over (partition by x.p * 0, 7)", 1, 2, 3, 4, 5, 6, 7)
	checkWindow(t, q, "row_number() over (partition by -x.p)", 1, 1, 2, 3, 2, 4, 3)
	checkWindow(t, q, "row_number() over (partition by x.p + x.k)", 1, 1, 1, 2, 1, 1, 2) // 6 3 4 6 2 5 3
	checkWindow(t, q, "row_number() over (partition by x.k, x.p - 1)", 1, 1, 1, 2, 1, 1, 2)
}

func TestOrders(t *testing.T) { // P9: order by
	q := mustNew(t, parted())
	checkWindow(t, q, "row_number() over (order by x.v)", 4, 5, 6, 7, 1, 2, 3)
	checkWindow(t, q, "row_number() over (order by -x.v)", 4, 3, 2, 1, 7, 6, 5)
	checkWindow(t, q, "sum(x.v) over (order by x.v)", 12, 32, 62, 102, -5, -5, 2)
	checkWindow(t, q, "max(x.i) over (order by x.v)", 7, 7, 7, 7, 5, 6, 7)
	checkWindow(t, q, "min(x.k) over (order by -x.v)", 1, 1, 3, 5, 0, 1, 1)
	checkWindow(t, q, "row_number() over (order by x.p, x.v)", 2, 7, 3, 4, 5, 1, 6)
	checkWindow(t, q, "row_number() over (order by -x.p, x.v)", 5, 3, 6, 7, 1, 4, 2)
	checkWindow(t, q, "row_number() over (order by x.p, -x.k, -x.v)", 2, 5, 4, 1, 7, 3, 6)
	checkWindow(t, q, "row_number() over (order by x.k, x.i)", 6, 2, 4, 7, 1, 5, 3)
	checkWindow(t, q, "row_number() over (order by x.k, -x.i)", 7, 3, 4, 6, 1, 5, 2)
	checkWindow(t, q, "row_number() over (partition by x.p order by x.v)", 2, 3, 3, 4, 1, 1, 2)
	checkWindow(t, q, "sum(x.v) over (partition by x.p order by x.k, -x.v)", 80, 15, 30, 70, -5, 30, 22)
	checkWindow(t, q, "count() over (partition by x.p, x.k order by -x.i)", 2, 2, 1, 1, 1, 1, 1)
	checkWindow(t, q, "row_number() over (partition by x.k order by x.p, x.v)", 1, 2, 1, 2, 1, 1, 1)
}

func TestOrderOfExtremes(t *testing.T) { // P9: by rising numbers, of which differences wrap round
	const most, least = math.MaxInt64, math.MinInt64
	q := mustNew(t, api.Table{Name: "t", Columns: []string{"i", "a"}, Rows: [][]int{{1, most}, {2, -1}, {3, least}, {4, 0}, {5, 1}, {6, least + 1}}})
	checkWindow(t, q, "row_number() over (order by x.a)", 6, 3, 1, 4, 5, 2)
	checkWindow(t, q, "min(x.a) over ()", most, -1, least, least, least, least)
	checkWindow(t, q, "max(x.a) over (order by x.a)", most, -1, least, 0, 1, least+1)
	checkWindow(t, q, "row_number() over (partition by x.a)", 1, 1, 1, 1, 1, 1)
}

func TestTies(t *testing.T) { // P9: rows that are alike stay in the order of P8
	q := mustNew(t, parted())
	checkWindow(t, q, "row_number() over (order by x.k)", 6, 2, 4, 7, 1, 5, 3)
	checkWindow(t, q, "row_number() over (order by -x.k)", 1, 5, 4, 2, 7, 3, 6)
	checkWindow(t, q, "row_number() over (order by x.p)", 1, 5, 2, 3, 6, 4, 7)
	checkWindow(t, q, "row_number() over (partition by x.p order by x.k)", 3, 2, 1, 4, 1, 2, 3)
	checkWindow(t, q, "row_number() over (order by 1)", 1, 2, 3, 4, 5, 6, 7)
	checkWindow(t, q, "row_number() over (order by x.p * 0, 0, 5)", 1, 2, 3, 4, 5, 6, 7)
	checkWindow(t, q, "sum(x.v) over (order by x.p)", 10, 100, 40, 80, 95, 80, 102)
}

func TestManyTies(t *testing.T) { // P9: so many that a sort which is not stable would be seen
	table := api.Table{Name: "t", Columns: []string{"i", "p", "k"}}
	for i := range 200 {
		table.Rows = append(table.Rows, []int{i + 1, i % 3, -(i % 5)})
	}
	q := mustNew(t, table)
	var byK, byP, byBoth []int
	for i, row := range table.Rows {
		place := func(ahead func(other []int, j int) bool) int {
			n := 1
			for j, other := range table.Rows {
				if ahead(other, j) {
					n++
				}
			}
			return n
		}
		byK = append(byK, place(func(o []int, j int) bool { return o[2] < row[2] || o[2] == row[2] && j < i }))
		byP = append(byP, place(func(o []int, j int) bool { return o[1] == row[1] && j < i }))
		byBoth = append(byBoth, place(func(o []int, j int) bool {
			return o[1] == row[1] && (o[2] < row[2] || o[2] == row[2] && j < i)
		}))
	}
	checkWindow(t, q, "row_number() over (order by x.k)", byK...)
	checkWindow(t, q, "row_number() over (partition by x.p)", byP...)
	checkWindow(t, q, "row_number() over (partition by x.p order by x.k)", byBoth...)
}

func TestTiesOfSources(t *testing.T) { // P9, P8: the first source's rows in their order, for each of these the second one's
	q := mustNew(t, api.Table{Name: "t", Columns: []string{"a"}, Rows: column(3, 1, 2)}, api.Table{Name: "u", Columns: []string{"b"}, Rows: column(9, 7)})
	checkRows(t, q, "select row_number() over (), x.a, y.b from t x, u y", [][]int{{1, 3, 9}, {2, 3, 7}, {3, 1, 9}, {4, 1, 7}, {5, 2, 9}, {6, 2, 7}})
	checkRows(t, q, "select row_number() over (), x.a, y.b from u y, t x", [][]int{{1, 3, 9}, {2, 1, 9}, {3, 2, 9}, {4, 3, 7}, {5, 1, 7}, {6, 2, 7}})
	checkRows(t, q, "select row_number() over (order by y.b), x.a, y.b from t x, u y", [][]int{{1, 3, 7}, {2, 1, 7}, {3, 2, 7}, {4, 3, 9}, {5, 1, 9}, {6, 2, 9}})
	checkRows(t, q, "select row_number() over (partition by x.a), x.a, y.b from t x, u y where x.a <> 1", [][]int{{1, 2, 9}, {1, 3, 9}, {2, 2, 7}, {2, 3, 7}})
	checkRows(t, q, "select row_number() over (), x.a, y.a from t x, t y where x.a <> y.a", [][]int{{1, 3, 1}, {2, 3, 2}, {3, 1, 3}, {4, 1, 2}, {5, 2, 3}, {6, 2, 1}})
}

func TestFrames(t *testing.T) { // P9: rows n preceding
	q := mustNew(t, parted())
	checkWindow(t, q, "sum(x.v) over (rows 0 preceding)", 10, 20, 30, 40, -5, 0, 7)
	checkWindow(t, q, "sum(x.v) over (rows 1 preceding)", 10, 30, 50, 70, 35, -5, 7)
	checkWindow(t, q, "sum(x.v) over (rows 2 preceding)", 10, 30, 60, 90, 65, 35, 2)
	checkWindow(t, q, "sum(x.v) over (rows 5 preceding)", 10, 30, 60, 100, 95, 95, 92)
	for _, n := range []string{"6", "7", "8", "007", "100", "4000", "1000000000"} {
		checkWindow(t, q, "sum(x.v) over (rows "+n+" preceding)", 10, 30, 60, 100, 95, 95, 102)
		checkWindow(t, q, "count() over (rows "+n+" preceding)", 1, 2, 3, 4, 5, 6, 7)
	}
	checkWindow(t, q, "count() over (rows 0 preceding)", 1, 1, 1, 1, 1, 1, 1)
	checkWindow(t, q, "count() over (rows 2 preceding)", 1, 2, 3, 3, 3, 3, 3)
	checkWindow(t, q, "min(x.v) over (rows 1 preceding)", 10, 10, 20, 30, -5, -5, 0)
	checkWindow(t, q, "max(x.v) over (rows 1 preceding)", 10, 20, 30, 40, 40, 0, 7)
	checkWindow(t, q, "max(x.v) over (rows 2 preceding)", 10, 20, 30, 40, 40, 40, 7)
	checkWindow(t, q, "max(x.v) over (rows 0 preceding)", 10, 20, 30, 40, -5, 0, 7)
	checkWindow(t, q, "row_number() over (rows 0 preceding)", 1, 2, 3, 4, 5, 6, 7)
	checkWindow(t, q, "row_number() over (partition by x.p rows 1 preceding)", 1, 1, 2, 3, 2, 4, 3)
	checkWindow(t, q, "sum(x.v) over (partition by x.p rows 1 preceding)", 10, 20, 40, 70, 15, 40, 2)
	checkWindow(t, q, "count() over (partition by x.p rows 1 preceding)", 1, 1, 2, 2, 2, 2, 2)
	checkWindow(t, q, "count() over (partition by x.p rows 2 preceding)", 1, 1, 2, 3, 2, 3, 3)
	checkWindow(t, q, "sum(x.i) over (order by x.v rows 1 preceding)", 8, 3, 5, 7, 5, 11, 13)
	checkWindow(t, q, "sum(x.v) over (partition by x.p order by x.k rows 1 preceding)", 10, 15, 30, 50, -5, 30, 27)
	checkWindow(t, q, "min(x.v) over (partition by x.p order by x.k, x.i rows 1 preceding)", 0, -5, 30, 10, -5, 0, 7)
}

func TestSumsWrapRound(t *testing.T) { // P9, P8
	const most, least = math.MaxInt64, math.MinInt64
	q := mustNew(t, api.Table{Name: "t", Columns: []string{"i", "a"}, Rows: [][]int{{1, most}, {2, 1}, {3, least}, {4, -1}, {5, most}}})
	checkWindow(t, q, "sum(x.a) over ()", most, least, 0, -1, most-1)
	checkWindow(t, q, "sum(x.a) over (rows 1 preceding)", most, least, least+1, most, most-1)
	checkWindow(t, q, "sum(x.a * 2) over ()", -2, 0, 0, -2, -4)
	checkWindow(t, q, "sum(x.a) over (order by x.a)", -1, least, least, most, most-1)
}

func TestSeveralWindows(t *testing.T) { // P9: each looks at the rows anew
	q := mustNew(t, parted())
	checkRows(t, q, "select x.i, row_number() over (order by x.v), row_number() over (partition by x.p), sum(x.v) over (), x.p, max(x.v) over (rows 0 preceding) from t x", [][]int{
		{1, 4, 1, 10, 1, 10}, {2, 5, 1, 30, 2, 20}, {3, 6, 2, 60, 1, 30}, {4, 7, 3, 100, 1, 40}, {5, 1, 2, 95, 2, -5}, {6, 2, 4, 95, 1, 0}, {7, 3, 3, 102, 2, 7},
	})
	checkRows(t, q, "select count() over (order by x.i), count() over (order by -x.i), count() over (), count() over (rows 0 preceding) from t x", [][]int{
		{1, 7, 1, 1}, {2, 6, 2, 1}, {3, 5, 3, 1}, {4, 4, 4, 1}, {5, 3, 5, 1}, {6, 2, 6, 1}, {7, 1, 7, 1},
	})
	a, err := q.Ask("select sum(x.v) over () as s, x.v as v, count() over (), min(1) over () as min_ from t x where x.i = 4")
	if want := (api.Answer{Columns: []string{"s", "v", "_", "min_"}, Rows: [][]int{{40, 40, 1, 1}}}); err != nil || !sameAnswer(a, want) {
		t.Errorf("%v, %v, want %v", a, err, want)
	}
}

func TestWindowsOfChosenRows(t *testing.T) { // P9, P8: only the rows for which all tests hold
	q := mustNew(t, parted(), ones("none", 0))
	checkRows(t, q, "select x.i, row_number() over (), sum(x.v) over (rows 1 preceding) from t x where x.p = 2", [][]int{{2, 1, 20}, {5, 2, 15}, {7, 3, 2}})
	checkRows(t, q, "select x.i, count() over (order by -x.i) from t x where x.k > 3 and x.v <> 10", [][]int{{4, 2}, {6, 1}})
	for _, window := range []string{"row_number() over ()", "count() over (partition by x.a)", "sum(x.a) over (order by x.a)", "min(x.a) over (rows 0 preceding)", "max(1) over ()"} {
		for _, rest := range []string{" from none x", " from t y, none x", " from none x, t y, t z", " from t y, none x where 1 = 1"} {
			a, err := q.Ask("select " + window + " as n" + rest)
			if err != nil || len(a.Rows) != 0 || !slices.Equal(a.Columns, []string{"n"}) {
				t.Errorf("%s%s: %v, %v", window, rest, a, err)
			}
		}
		checkRows(t, q, "select "+strings.ReplaceAll(window, "x.a", "x.i")+" from t x where 1 = 2", nil)
	}
}

func TestWindowsOfManyRows(t *testing.T) { // P9, P8: over as many rows as can be made
	q := mustNew(t, ones("t", 200), ones("u", 20), ones("v", 21))
	a, err := q.Ask("select row_number() over (order by 1), sum(x.a) over (), max(y.a) over (rows 3000 preceding), count() over (rows 3000 preceding), min(x.a) over (partition by 1), count() over () from t x, u y")
	if err != nil || len(a.Rows) != 4000 {
		t.Fatalf("%d rows, %v", len(a.Rows), err)
	}
	for i, row := range a.Rows {
		if !slices.Equal(row, []int{i + 1, i + 1, 1, min(i+1, 3001), 1, i + 1}) {
			t.Fatalf("row %d is %v", i, row)
		}
	}
	checkWrong(t, q, "select count() over () from t x, v y", api.ErrMany, -1)
}

func TestManyExprsOfWindow(t *testing.T) { // P9: as many as a text has room for
	q := mustNew(t, parted())
	same := strings.Repeat("x.p-x.p,", 50)
	checkWindow(t, q, "row_number() over (partition by "+same+"x.p order by "+same+"x.v)", 2, 3, 3, 4, 1, 1, 2)
}

func TestWindowMeaning(t *testing.T) { // P7: the names in a window, from left to right
	q := mustNew(t, edges(), ones("f", 200))
	for marked, want := range map[string]error{
		"select sum(^y.a) over () from e x":                                                             api.ErrTable,
		"select min(x.^c) over () from e x":                                                             api.ErrColumn,
		"select max(1 + x.a * -(^y.a)) over () from e x":                                                api.ErrTable,
		"select count() over (partition by ^y.a) from e x":                                              api.ErrTable,
		"select count() over (partition by x.^c) from e x":                                              api.ErrColumn,
		"select count() over (partition by x.a, x.b, x.^c) from e x":                                    api.ErrColumn,
		"select row_number() over (order by ^y.a) from e x":                                             api.ErrTable,
		"select row_number() over (order by x.a, x.^c) from e x":                                        api.ErrColumn,
		"select sum(x.^c) over (partition by y.a order by z.a) from e x":                                api.ErrColumn,
		"select sum(^w.c) over (partition by x.c order by x.d) from e x":                                api.ErrTable,
		"select sum(x.a) over (partition by x.^c order by y.a rows 1 preceding) from e x":               api.ErrColumn,
		"select sum(x.a) over (partition by ^y.c, x.c order by x.c) from e x":                           api.ErrTable,
		"select sum(x.a) over (partition by x.a order by x.a, ^y.a, x.c) from e x":                      api.ErrTable,
		"select x.a, count() over (partition by x.^c), y.a from e x":                                    api.ErrColumn,
		"select count() over (order by x.^c), y.a from e x where z.a = 1":                               api.ErrColumn,
		"select ^y.a, count() over (order by x.c) from e x":                                             api.ErrTable,
		"select count() over (order by x.a) from e x where x.^c = 1":                                    api.ErrColumn,
		"select count() over (order by y.a) from ^q x":                                                  api.ErrTable,
		"select sum(y.a) over () from e x, e ^x":                                                        api.ErrTwice,
		"select sum(^e.a) over () from e x":                                                             api.ErrTable,
		"select count() over (order by x.a), count() over (order by ^y.a) from f x, f z":                api.ErrTable, // too many rows besides
		"select sum(x.a) over () as s, count() over (partition by ^s.a) from e x":                       api.ErrTable,
		"select sum(x.a) over () as a, count() over (partition by x.^c) as c from e x":                  api.ErrColumn,
		"select row_number() over (partition by 1 order by 2 rows 3 preceding) from ^x e":               api.ErrTable,
		"select count() over (rows ^x preceding) from q x":                                              api.ErrSyntax,
		"select count() over (rows ^1000000001 preceding) from q x":                                     api.ErrNumber,
		"select sum(y.a) over (order by x.c ^partition by x.a) from e x":                                api.ErrSyntax,
		"select 1, 2, 3, 4, 5, 6, ^count() over (order by y.a) from q x":                                api.ErrMany,
		"select sum(" + strings.Repeat("(", 17) + "^1" + strings.Repeat(")", 17) + ") over () from q x": api.ErrMany,
	} {
		checkAt(t, q, marked, want)
	}
	checkWrong(t, q, "select count() over () from f x, f y", api.ErrMany, -1)
}

func TestKnownWindows(t *testing.T) { // P12: a window that is asked again answers the same
	q := mustNew(t, parted())
	for i := range 3 {
		checkWindow(t, q, "sum(x.v) over (partition by x.p order by x.k)", 40, 15, 30, 80, -5, 30, 22)
		checkWindow(t, q, "count() over (rows "+strconv.Itoa(i)+" preceding)", 1, min(i, 1)+1, min(i, 2)+1, i+1, i+1, i+1, i+1)
	}
	checkKnown(t, q, 4)
}
