package quarry

import (
	"errors"
	"math"
	"reflect"
	"slices"
	"strings"
	"testing"

	"quarry/api"
)

// sameRows: the same rows; none may be nil, or a list of none.
func sameRows(a, b [][]int) bool {
	return len(a) == 0 && len(b) == 0 || reflect.DeepEqual(a, b)
}

func checkRows(t *testing.T, q *Quarry, text string, want [][]int) {
	t.Helper()
	a, err := q.Ask(text)
	if err != nil || !sameRows(a.Rows, want) {
		t.Errorf("Ask(%q) = %v, %v, want %v", text, a.Rows, err, want)
	}
}

// checkWrong: Ask answers this error, at this place (-1: without one), and nothing beside it.
func checkWrong(t *testing.T, q *Quarry, text string, want error, place int) {
	t.Helper()
	a, err := q.Ask(text)
	if a.Columns != nil || a.Rows != nil {
		t.Errorf("Ask(%q): columns %v and %d rows beside an error", text, a.Columns, len(a.Rows))
	}
	if place < 0 {
		if err != want {
			t.Errorf("Ask(%q): %v, want %v without a place", text, err, want)
		}
		return
	}
	var at *api.At
	if !errors.As(err, &at) || err != error(at) || at.Err != want || at.Place != place {
		t.Errorf("Ask(%q): %v (%+v), want %v at %d", text, err, at, want, place)
	}
	if !errors.Is(err, want) {
		t.Errorf("Ask(%q): %v is not %v", text, err, want)
	}
}

// checkAt is checkWrong for an error at the byte of the text that has a caret ahead of it.
func checkAt(t *testing.T, q *Quarry, marked string, want error) {
	t.Helper()
	place := strings.Index(marked, "^")
	if place < 0 {
		t.Fatalf("%q has no mark", marked)
	}
	checkWrong(t, q, strings.Replace(marked, "^", "", 1), want, place)
}

// column makes rows of one number each.
func column(numbers ...int) [][]int {
	var rows [][]int
	for _, n := range numbers {
		rows = append(rows, []int{n})
	}
	return rows
}

func TestExamples(t *testing.T) { // the document's examples 1 and 4
	q := mustNew(t, edges())
	a, err := q.Ask("select x.a + x.b * 2 as s from e x where x.a < x.b")
	if want := (api.Answer{Columns: []string{"s"}, Rows: [][]int{{5}, {8}}}); err != nil || !reflect.DeepEqual(a, want) {
		t.Errorf("example 1: %v, %v", a, err)
	}
	checkWrong(t, q, "select x.a from e y", api.ErrTable, 7)
	checkWrong(t, q, "select x.c from e x", api.ErrColumn, 9)
	checkWrong(t, q, "select 1 from e x, e x", api.ErrTwice, 21)
	checkWrong(t, q, "select 1 from e", api.ErrSyntax, 15)
}

func TestTextErrors(t *testing.T) { // P7: the errors of P3 and P4, ahead of those of meaning
	q := mustNew(t, edges())
	checkWrong(t, q, "select x.z from q x"+strings.Repeat(" ", api.MaxText), api.ErrLong, -1)
	checkAt(t, q, "^", api.ErrSyntax)
	checkAt(t, q, "select x.z from q x ^?", api.ErrByte)
	checkAt(t, q, "select x.z from q x where 1 = ^1000000001", api.ErrNumber)
	checkAt(t, q, "select x.z from q x where 1 = 1 ^abcdefghi", api.ErrSyntax)
	checkAt(t, q, "select x.z from q x where 1 = ^", api.ErrSyntax)
	checkAt(t, q, "select x.z from q x ^x", api.ErrSyntax)
	checkAt(t, q, "select y.z from e x, e x, q y, ^e z", api.ErrMany)
	checkAt(t, q, "select y.z, 2, 3, 4, 5, 6, ^7 from e x", api.ErrMany)
	checkAt(t, q, "select y.z from e x where "+strings.Repeat("-", 17)+"^1 = 1", api.ErrMany)
}

func TestMeaning(t *testing.T) { // P7: each error, at its token
	q := mustNew(t, edges(), api.Table{Name: "f", Columns: []string{"c"}})
	for marked, want := range map[string]error{
		"select 1 from ^q x":                              api.ErrTable,
		"select 1 from e x, ^q y":                         api.ErrTable,
		"select 1 from e x, f y, ^q z":                    api.ErrTable,
		"select 1 from ^x x":                              api.ErrTable,
		"select 1 from e x, ^x y":                         api.ErrTable,
		"select 1 from e x, e ^x":                         api.ErrTwice,
		"select 1 from e x, f ^x":                         api.ErrTwice,
		"select 1 from e x, f y, f ^x":                    api.ErrTwice,
		"select 1 from e x, f y, f ^y":                    api.ErrTwice,
		"select 1 from e e, f ^e":                         api.ErrTwice,
		"select ^y.a from e x":                            api.ErrTable,
		"select ^e.a from e x":                            api.ErrTable,
		"select ^f.c from e x":                            api.ErrTable,
		"select x.^c from e x":                            api.ErrColumn,
		"select x.^x from e x":                            api.ErrColumn,
		"select y.^a from e x, f y":                       api.ErrColumn,
		"select x.\n^c from e x":                          api.ErrColumn,
		"select 1, x.a, ^y.a from e x":                    api.ErrTable,
		"select 1 + x.a * ^y.a from e x":                  api.ErrTable,
		"select -(-(x.a - x.^c)) as c from e x":           api.ErrColumn,
		"select x.a from e x where ^y.a = 1":              api.ErrTable,
		"select x.a from e x where 1 = x.^c":              api.ErrColumn,
		"select x.a from e x where 1 = 1 and x.^c < 2":    api.ErrColumn,
		"select x.a from e x where 1 = 1 and 2 >= ^z.c":   api.ErrTable,
		"select x.a from e x where 1 = 2 and -(^y.a) = 1": api.ErrTable, // though the test ahead of it never holds
		"select x.^c from f y, e x where 1 > 2":           api.ErrColumn,
		"select ^y.c from f x":                            api.ErrTable, // f has no rows
	} {
		checkAt(t, q, marked, want)
	}
}

func TestFirstMeaning(t *testing.T) { // P7: sources, items, tests; each from left to right
	q := mustNew(t, edges(), api.Table{Name: "f", Columns: []string{"c"}})
	for marked, want := range map[string]error{
		"select y.a from ^q x where z.a = 1":             api.ErrTable,
		"select y.a from e x, e ^x where z.a = 1":        api.ErrTwice,
		"select ^y.a from e x where x.z = 1":             api.ErrTable,
		"select x.^d from e x where y.z = 1":             api.ErrColumn,
		"select x.a from e x where x.^d = y.a":           api.ErrColumn,
		"select 1 from ^q x, e x":                        api.ErrTable,
		"select 1 from e x, ^q x":                        api.ErrTable,
		"select 1 from e x, e ^x, q y":                   api.ErrTwice,
		"select 1 from ^q x, r x":                        api.ErrTable,
		"select 1 from ^q x, q y, q z":                   api.ErrTable,
		"select x.^d, y.a from e x":                      api.ErrColumn,
		"select ^y.a, x.d from e x":                      api.ErrTable,
		"select x.^d + y.a from e x":                     api.ErrColumn,
		"select ^y.a * x.d from e x":                     api.ErrTable,
		"select x.a * (1 - x.^d) - y.a from e x":         api.ErrColumn,
		"select ^y.z from e x":                           api.ErrTable,
		"select 1 from e x where x.^d < y.a and z.a = 1": api.ErrColumn,
		"select 1 from e x where 1 = ^y.a and x.d = 1":   api.ErrTable,
	} {
		checkAt(t, q, marked, want)
	}
}

func TestMade(t *testing.T) { // P8, P7: MaxMade and one past it
	q := mustNew(t, ones("t", 200), ones("u", 20), ones("v", 21), ones("none", 0))
	for text, want := range map[string]int{
		"select 1 from t x":                     200,
		"select 1 from t x, u y":                4000,
		"select 1 from u x, t y":                4000,
		"select 1 from t x, u y where 1 = 2":    0,
		"select 1 from t x, t y, none z":        0,
		"select 1 from none x, t y, t z":        0,
		"select 1 from t x, none y, t z":        0,
		"select 1 from t x, v y":                -1,
		"select 1 from v x, t y where 1 = 2":    -1,
		"select 1 from t x, t y":                -1,
		"select 1 from u x, u y, u z":           -1,
		"select 1 from t x, t y, t z":           -1,
		"select 1 from t x, t y where x.a <> 1": -1,
	} {
		a, err := q.Ask(text)
		if want < 0 {
			checkWrong(t, q, text, api.ErrMany, -1)
		} else if err != nil || len(a.Rows) != want {
			t.Errorf("Ask(%q): %d rows, %v, want %d", text, len(a.Rows), err, want)
		}
	}
	three := mustNew(t, ones("t", 58), ones("u", 69), ones("v", 1), ones("w", 57))
	checkWrong(t, three, "select 1 from t x, u y", api.ErrMany, -1) // 4002: no numbers of rows give 4001
	checkWrong(t, three, "select 1 from t x, v z, u y where 1 = 2", api.ErrMany, -1)
	if a, err := three.Ask("select 1 from v z, w x, u y"); err != nil || len(a.Rows) != 57*69 {
		t.Errorf("57 times 69 rows: %d, %v", len(a.Rows), err)
	}
}

func TestMadeLast(t *testing.T) { // P7: ErrMany without a place, behind all errors of meaning
	q := mustNew(t, ones("t", 200))
	checkWrong(t, q, "select 1 from t x, t y", api.ErrMany, -1)
	checkAt(t, q, "select 1 from t x, t y, ^q z", api.ErrTable)
	checkAt(t, q, "select 1 from t x, t y, t ^x", api.ErrTwice)
	checkAt(t, q, "select ^z.a from t x, t y", api.ErrTable)
	checkAt(t, q, "select 1 from t x, t y where 1 = 1 and x.^b = 1", api.ErrColumn)
}

func TestSources(t *testing.T) { // P8: one row of each source, for which all tests hold
	f := api.Table{Name: "f", Columns: []string{"c"}, Rows: column(3, 1, 3)}
	q := mustNew(t, edges(), f, ones("none", 0))
	checkRows(t, q, "select x.c from f x", column(1, 3, 3))
	checkRows(t, q, "select x.c * 10 + y.c from f x, f y", column(11, 13, 13, 31, 31, 33, 33, 33, 33))
	checkRows(t, q, "select x.c, y.a, z.b from f x, e y, e z where x.c = y.a and y.b = z.a", [][]int{{1, 1, 3}, {3, 3, 2}, {3, 3, 2}})
	checkRows(t, q, "select y.b, x.a from e x, e y where x.b = y.a", [][]int{{1, 2}, {2, 3}, {3, 1}, {4, 4}})
	checkRows(t, q, "select x.a from none x", nil)
	checkRows(t, q, "select 1 from e x, none y", nil)
	checkRows(t, q, "select 1 from none y, e x", nil)
	checkRows(t, q, "select e.a from e e, f f where f.c = e.b", column(2, 2, 3))
	checkRows(t, q, "select c.a from e c, f e where e.c = c.b", column(2, 2, 3)) // names that others have elsewhere
}

func TestTests(t *testing.T) { // P8
	q := mustNew(t, edges())
	for test, want := range map[string][][]int{
		"x.a = 2":                         column(2),
		"x.a <> 2":                        column(1, 3, 4),
		"x.a < 2":                         column(1),
		"x.a <= 2":                        column(1, 2),
		"x.a > 2":                         column(3, 4),
		"x.a >= 2":                        column(2, 3, 4),
		"1 = 1":                           column(1, 2, 3, 4),
		"1 > 1":                           nil,
		"x.a > 1 and x.b > 1":             column(2, 4),
		"x.a > 1 and x.a < 4 and x.b = 1": column(3),
		"x.b = 1 and x.a > 1 and x.a < 3": nil,
		"x.a > 3 and x.a > 1":             column(4),
		"-x.a < -2":                       column(3, 4),
		"x.a * x.b - 1 = x.a + 1 * x.b":   column(2),
		"x.a + 1 = x.b":                   column(1, 2),
		"(x.a + x.b) * 2 >= 10":           column(2, 4),
	} {
		checkRows(t, q, "select x.a from e x where "+test, want)
	}
}

func TestWrapRound(t *testing.T) { // P8: words of 64 bits
	const most, least = math.MaxInt64, math.MinInt64
	q := mustNew(t, api.Table{Name: "t", Columns: []string{"a", "b"}, Rows: [][]int{{most, least}}})
	for expr, want := range map[string]int{
		"x.a": most, "x.b": least, "x.a + 1": least, "x.b - 1": most, "x.a * 2": -2, "x.b * 2": 0,
		"-x.b": least, "-x.a": least + 1, "--x.b": least, "x.a - x.b": -1, "x.b - x.a": 1, "x.a + x.b": -1,
		"x.a * x.a": 1, "x.b * x.b": 0, "x.a * x.b": least, "x.a + x.a": -2, "x.b + x.b": 0,
		"1000000000 * 1000000000 * 1000000000": -6930898827444486144, "x.a + 1 - 1": most, "0 - x.b": least,
		"1 - 2 - 3": -4, "1 - (2 - 3)": 2, "2 + 3 * 4": 14, "(2 + 3) * 4": 20, "-2 * 3": -6, "-(2 * 3)": -6, "2 - -3": 5, "007": 7,
		"1000000000": 1000000000, "-(2 - 5) * 2": 6, "1 - 2 * 3 - 4": -9, "0": 0,
	} {
		checkRows(t, q, "select "+expr+" from t x", column(want))
	}
	checkRows(t, q, "select 1 from t x where x.a + 1 < x.a and x.a > x.b and x.b - 1 = x.a", column(1))
}

func TestColumns(t *testing.T) { // P11
	q := mustNew(t, edges())
	for text, want := range map[string]string{
		"select 1 from e x":                     "_",
		"select x.a from e x":                   "_",
		"select x.a as a from e x":              "a",
		"select x.a as s, 1, x.b as _ from e x": "s _ _",
		"select 1 as n, 2 as n, 3, 4 as e, 5 as x, 6 as abcdefgh from e x": "n n _ e x abcdefgh",
		"select 1 as n from e x where 1 = 2":                               "n",
	} {
		if a, err := q.Ask(text); err != nil || !slices.Equal(a.Columns, strings.Fields(want)) {
			t.Errorf("Ask(%q): columns %q, %v, want %q", text, a.Columns, err, want)
		}
	}
}

func TestSorted(t *testing.T) { // P11
	q := mustNew(t, api.Table{Name: "t", Columns: []string{"a", "b", "c"}, Rows: [][]int{
		{2, 1, 5}, {1, 2, 3}, {-1, 9, 9}, {1, 2, -3}, {2, -1, 7}, {1, 2, 3}, {10, 0, 0}, {math.MinInt64, 0, 0}, {math.MaxInt64, 0, 0}, {2, 1, 5},
	}})
	checkRows(t, q, "select x.a, x.b, x.c from t x", [][]int{
		{math.MinInt64, 0, 0}, {-1, 9, 9}, {1, 2, -3}, {1, 2, 3}, {1, 2, 3}, {2, -1, 7}, {2, 1, 5}, {2, 1, 5}, {10, 0, 0}, {math.MaxInt64, 0, 0},
	})
	checkRows(t, q, "select x.c, x.a from t x where x.a < 3 and x.a > -2", [][]int{
		{-3, 1}, {3, 1}, {3, 1}, {5, 2}, {5, 2}, {7, 2}, {9, -1},
	})
	checkRows(t, q, "select 0, 0 from t x where x.a = 1", [][]int{{0, 0}, {0, 0}, {0, 0}})
}

// spoil writes into all of an answer, the room behind its lists' ends too.
func spoil(a api.Answer) {
	for _, row := range a.Rows {
		row = row[:cap(row)]
		for i := range row {
			row[i] = -99
		}
	}
	rows := a.Rows[:cap(a.Rows)]
	for i := range rows {
		rows[i] = nil
	}
	columns := a.Columns[:cap(a.Columns)]
	for i := range columns {
		columns[i] = "spoiled"
	}
}

func TestOwnLists(t *testing.T) { // P2, P11: the lists of an answer are the caller's own
	q := mustNew(t, edges())
	const text = "select x.a, x.b as n from e x"
	want := api.Answer{Columns: []string{"_", "n"}, Rows: [][]int{{1, 2}, {2, 3}, {3, 1}, {4, 4}}}
	first, _ := q.Ask(text)
	second, _ := q.Ask(text)
	spoil(first)
	if !reflect.DeepEqual(second, want) {
		t.Errorf("two answers share room: %v", second)
	}
	third, err := q.Ask(text)
	if err != nil || !reflect.DeepEqual(third, want) {
		t.Errorf("an answer shares room with what is kept: %v, %v", third, err)
	}
	for i := range third.Rows {
		row := third.Rows[i][:cap(third.Rows[i])]
		for j := range row {
			row[j] = -99
		}
		if i+1 < len(third.Rows) && !reflect.DeepEqual(third.Rows[i+1:], want.Rows[i+1:]) {
			t.Fatalf("row %d shares room with one behind it: %v", i, third.Rows)
		}
	}
}

func TestOwnErrors(t *testing.T) { // P2: an error that its caller writes into is no other caller's
	q := mustNew(t, edges())
	for _, text := range []string{"select x.a from e y", "select"} {
		_, first := q.Ask(text)
		_, second := q.Ask(text)
		var at, other *api.At
		if !errors.As(first, &at) || !errors.As(second, &other) || at == other {
			t.Errorf("Ask(%q) gives one error twice: %v, %v", text, first, second)
		}
	}
}
