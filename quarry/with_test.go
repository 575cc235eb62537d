package quarry

import (
	"math"
	"reflect"
	"slices"
	"strconv"
	"strings"
	"testing"

	"quarry/api"
)

// numbers is a table with one column, of the numbers from 1 on.
func numbers(name string, rows int) api.Table {
	t := ones(name, rows)
	for i := range t.Rows {
		t.Rows[i][0] = i + 1
	}
	return t
}

// upTo makes rows of one number each, from 1 on.
func upTo(n int) [][]int { return numbers("t", n).Rows }

// checkMany: too many rows, without a place.
func checkMany(t *testing.T, q *Quarry, text string) {
	t.Helper()
	checkWrong(t, q, text, api.ErrMany, -1)
}

func TestWithExamples(t *testing.T) { // the document's examples 2 and 6
	q := mustNew(t, edges())
	checkRows(t, q, "with r(a, b) as (select x.a, x.b from e x union select r.a, x.b from r r, e x where r.b = x.a) select r.b from r r where r.a = 1", column(1, 2, 3))
	checkMany(t, q, "with r(a) as (select 1 from e x union select r.a + 1 from r r) select r.a from r r")
}

func TestDifferentRows(t *testing.T) { // P10: the different rows alone, of the first select and of the second
	q := mustNew(t, edges(), ones("one", 200), ones("more", 20), ones("none", 0))
	checkRows(t, q, "with r(a) as (select 7 from e x union select 7 from e x) select r.a from r r", column(7))
	checkRows(t, q, "with r(a) as (select 7 from e x union select 8 from e x) select r.a from r r", column(7, 8))
	checkRows(t, q, "with r(a) as (select x.a from one x, more y union select x.a + 1 from one x, more y) select r.a from r r", column(1, 2))
	checkRows(t, q, "with r(a, b) as (select x.a * 0, y.a from e x, e y union select y.a, x.a * 0 from e x, e y) select r.a, r.b from r r", [][]int{{0, 1}, {0, 2}, {0, 3}, {0, 4}, {1, 0}, {2, 0}, {3, 0}, {4, 0}})
	checkRows(t, q, "with r(a, b) as (select 1, 2 from e x union select r.b, r.a from r r) select r.a, r.b from r r", [][]int{{1, 2}, {2, 1}})
	checkRows(t, q, "with r(a, b) as (select 1, 1 from e x union select 1, r.b + 1 from r r where r.b < 3) select r.b from r r", column(1, 2, 3))
	checkRows(t, q, "with r(a) as (select 7 from e x union select 8 from e x) select r.a from r r, e x where x.a < 3", column(7, 7, 8, 8)) // the answer's rows stay
}

func TestWithoutRows(t *testing.T) { // P10: the second select is worked out where the first one gives nothing too
	q := mustNew(t, edges(), ones("none", 0))
	checkRows(t, q, "with r(a) as (select x.a from none x union select x.a from none x) select r.a from r r", nil)
	checkRows(t, q, "with r(a) as (select 1 from e x where 1 = 2 union select r.a + 1 from r r) select r.a from r r", nil)
	checkRows(t, q, "with r(a) as (select x.a from none x union select x.a from e x) select r.a from r r", column(1, 2, 3, 4))
	checkRows(t, q, "with r(a) as (select x.a from none x union select x.a from e x, r r) select r.a from r r", nil)
	checkRows(t, q, "with r(a) as (select x.a from e x union select x.a from none x, r r) select r.a from r r", column(1, 2, 3, 4))
	checkRows(t, q, "with r(a) as (select x.a from e x union select 5 from r r where 1 = 2) select r.a from r r", column(1, 2, 3, 4))
	checkRows(t, q, "with r(a) as (select x.a from none x union select r.a from r r) select x.a from e x", column(1, 2, 3, 4))
	checkRows(t, q, "with r(a) as (select x.a from none x union select r.a from r r) select x.a from e x, r r", nil)
}

func TestReferences(t *testing.T) { // P10: a second select that refers to the table never, once, twice and three times
	q := mustNew(t, edges())
	reached := [][]int{{1, 1}, {1, 2}, {1, 3}, {2, 1}, {2, 2}, {2, 3}, {3, 1}, {3, 2}, {3, 3}, {4, 4}}
	for _, second := range []string{
		"select x.a, y.b from r x, e y where x.b = y.a",
		"select y.a, x.b from r x, e y where y.b = x.a",
		"select x.a, y.b from r x, r y where x.b = y.a",
		"select x.a, y.b from r x, r y, e z where x.b = z.a and y.a = z.b",
	} {
		checkRows(t, q, "with r(a, b) as (select x.a, x.b from e x union "+second+") select r.a, r.b from r r", reached)
	}
	checkRows(t, q, "with r(a, b) as (select x.a, x.b from e x union select x.a, z.b from r x, r y, r z where x.b = y.a and y.b = z.a) select r.a, r.b from r r", [][]int{{1, 1}, {1, 2}, {1, 3}, {2, 1}, {2, 2}, {2, 3}, {3, 1}, {3, 2}, {3, 3}, {4, 4}})
	checkRows(t, q, "with r(a, b) as (select x.a, x.b from e x union select x.b, y.b from e x, e y where x.a = y.a) select r.a, r.b from r r", [][]int{{1, 1}, {1, 2}, {2, 2}, {2, 3}, {3, 1}, {3, 3}, {4, 4}})
	checkRows(t, q, "with r(n) as (select 1 from e x union select r.n * 2 from r r where r.n < 20) select r.n from r r", column(1, 2, 4, 8, 16, 32))
	checkRows(t, q, "with r(n) as (select 1 from e x union select x.n + y.n from r x, r y where x.n + y.n < 12) select r.n from r r", upTo(11))
	checkRows(t, q, "with r(n) as (select 1 from e x union select x.n + y.n + z.n from r x, r y, r z where x.n + y.n + z.n < 14) select r.n from r r", column(1, 3, 5, 7, 9, 11, 13))
	checkRows(t, q, "with r(a, b) as (select 0, 1 from e x union select r.b, r.a + r.b from r r where r.b < 50) select r.a, r.b from r r where r.a > 10", [][]int{{13, 21}, {21, 34}, {34, 55}})
}

func TestManyRounds(t *testing.T) { // P10: each time adds one row, which another one hangs on
	q := mustNew(t, edges())
	checkRows(t, q, "with r(a) as (select 1 from e x union select r.a + 1 from r r where r.a < 200) select r.a from r r", upTo(200))
	checkRows(t, q, "with r(a) as (select 200 from e x union select r.a - 1 from r r where r.a > 1) select r.a from r r", upTo(200))
	doubled := [][]int{{math.MinInt64}, {0}}
	for i := range 63 {
		doubled = append(doubled, []int{1 << i})
	}
	checkRows(t, q, "with r(a) as (select 1 from e x union select r.a * 2 from r r) select r.a from r r", doubled) // wraps round to 0
}

func TestWithMaxRows(t *testing.T) { // P10: MaxRows, and one past it
	q := mustNew(t, numbers("t", 200), numbers("u", 20), ones("one", 1))
	step := func(last int) string {
		return "with r(a) as (select 1 from one x union select r.a + 1 from r r where r.a < " + strconv.Itoa(last) + ") select r.a from r r"
	}
	checkRows(t, q, step(200), upTo(200))
	checkMany(t, q, step(201))
	// the first select alone
	checkRows(t, q, "with r(a) as (select x.a from t x union select 1 from one x) select r.a from r r", upTo(200))
	checkRows(t, q, "with r(a) as (select x.a from t x, u y union select 1 from one x) select r.a from r r", upTo(200))
	checkRows(t, q, "with r(a) as (select x.a + y.a - 1 from t x, u y where x.a + y.a < 202 union select 1 from one x) select r.a from r r", upTo(200))
	checkMany(t, q, "with r(a) as (select x.a + y.a - 1 from t x, u y where x.a + y.a < 203 union select 1 from one x) select r.a from r r")
	checkMany(t, q, "with r(a, b) as (select x.a, y.a from t x, u y union select 1, 1 from one x) select r.a from r r")
	// both together
	checkRows(t, q, "with r(a) as (select x.a from t x where x.a < 100 union select x.a from t x where x.a > 50) select r.a from r r", upTo(200))
	checkMany(t, q, "with r(a) as (select x.a from t x union select 201 from one x) select r.a from r r")
	checkMany(t, q, "with r(a) as (select 0 from one x union select x.a from t x) select r.a from r r")
	checkMany(t, q, "with r(a) as (select x.a from t x union select 0 - r.a from r r where r.a = 7) select r.a from r r")
	// the second one in one time
	checkRows(t, q, "with r(a) as (select 1 from one x union select x.a from t x) select r.a from r r", upTo(200))
	checkMany(t, q, "with r(a) as (select 1 from one x union select x.a + 1 from t x) select r.a from r r")
}

func TestWithMaxMade(t *testing.T) { // P10, P8: more than may be put together, in whichever time
	q := mustNew(t, numbers("t", 200), numbers("u", 20), numbers("v", 21), ones("one", 1))
	checkMany(t, q, "with r(a) as (select 1 from t x, v y union select 1 from one x) select r.a from r r")
	checkMany(t, q, "with r(a) as (select 1 from one x union select 1 from t x, v y) select r.a from r r")
	checkMany(t, q, "with r(a) as (select 1 from t x, v y where 1 = 2 union select 1 from one x) select r.a from r r")
	checkRows(t, q, "with r(a) as (select 1 from t x, u y union select 1 from u x, t y) select r.a from r r", column(1))
	// 63 times 63 rows may be, 64 times 64 may not, though the last time adds nothing
	step := func(second string) string {
		return "with r(a) as (select 1 from one x union select r.a + 1 from " + second + ") select r.a from r r"
	}
	checkRows(t, q, step("r r, r s where r.a < 63"), upTo(63))
	checkMany(t, q, step("r r, r s where r.a < 64"))
	checkRows(t, q, step("r r, r s, r t where r.a < 15"), upTo(15))
	checkMany(t, q, step("r r, r s, r t where r.a < 16"))
	checkRows(t, q, step("r r, u x where r.a < 200"), upTo(200))
	checkRows(t, q, step("r r, v x where r.a < 190"), upTo(190))
	checkMany(t, q, step("v x, r r where r.a < 191"))
	// the rows of the first select alone
	checkRows(t, q, "with r(a) as (select x.a from t x where x.a < 64 union select x.a from r x, r y) select r.a from r r", upTo(63))
	checkMany(t, q, "with r(a) as (select x.a from t x where x.a < 65 union select x.a from r x, r y) select r.a from r r")
	// the first time gives all rows, the second one adds none, but is too many
	checkRows(t, q, "with r(a) as (select 1 from one x union select x.a from t x, r y, r z where x.a < 5) select r.a from r r", upTo(4))
	checkMany(t, q, "with r(a) as (select 1 from one x union select x.a from u x, r y, r z) select r.a from r r")
}

func TestMainOfWith(t *testing.T) { // P8, P10: the main select over the table
	q := mustNew(t, numbers("t", 200), ones("one", 1))
	with := func(rows int, main string) string {
		return "with r(a) as (select x.a from t x where x.a <= " + strconv.Itoa(rows) + " union select r.a from r r) " + main
	}
	checkRows(t, q, with(63, "select x.a from r x, r y where x.a = y.a"), upTo(63))
	checkMany(t, q, with(64, "select x.a from r x, r y where x.a = y.a"))
	checkRows(t, q, with(15, "select x.a from r x, r y, r z where x.a = y.a and y.a = z.a"), upTo(15))
	checkMany(t, q, with(16, "select x.a from r x, r y, r z where 1 = 2"))
	checkRows(t, q, with(20, "select x.a from t x, r y where y.a = 20"), upTo(200))
	checkMany(t, q, with(21, "select x.a from r y, t x where y.a = 20"))
	checkRows(t, q, with(3, "select r.a * 10 + t.a from r r, r t where r.a <> t.a"), column(12, 13, 21, 23, 31, 32))
	a, err := q.Ask(with(2, "select r.a as n, 5 from r r"))
	if want := (api.Answer{Columns: []string{"n", "_"}, Rows: [][]int{{1, 5}, {2, 5}}}); err != nil || !sameAnswer(a, want) {
		t.Errorf("%v, %v, want %v", a, err, want)
	}
}

func TestNotAskedFor(t *testing.T) { // P10: all is done where the main select does not ask for the table, too
	q := mustNew(t, edges(), numbers("t", 200), numbers("v", 21))
	checkRows(t, q, "with r(a) as (select 1 from e x union select r.a + 1 from r r where r.a < 200) select x.a from e x", upTo(4))
	checkMany(t, q, "with r(a) as (select 1 from e x union select r.a + 1 from r r where r.a < 201) select x.a from e x")
	checkMany(t, q, "with r(a) as (select 1 from e x union select r.a + 1 from r r) select x.a from e x where 1 = 2")
	checkMany(t, q, "with r(a) as (select 1 from t x, v y union select 1 from e x) select x.a from e x")
	checkMany(t, q, "with r(a) as (select 1 from e x union select 1 from v x, t y) select x.a from e x")
	checkMany(t, q, "with r(a) as (select 1 from e x union select r.a + 1 from r r, r s where r.a < 64) select x.a from e x")
	checkMany(t, q, "with r(a) as (select 1 from e x union select 1 from e x) select x.a from t x, t y")
	checkAt(t, q, "with r(a) as (select ^q.a from e x union select 1 from e x) select x.a from e x", api.ErrTable)
	checkAt(t, q, "with r(a) as (select 1 from e x union select 1, 2 from e x^) select x.a from e x", api.ErrShape)
}

func TestSortedTable(t *testing.T) { // P10: whenever its rows are gone through they are sorted
	q := mustNew(t, edges())
	checkRows(t, q, "with r(n) as (select 5 - x.a from e x union select r.n from r r) select row_number() over (), r.n from r r", [][]int{{1, 1}, {2, 2}, {3, 3}, {4, 4}})
	checkRows(t, q, "with r(n) as (select 1 from e x union select r.n - 1 from r r where r.n > -3) select row_number() over (), r.n from r r", [][]int{{1, -3}, {2, -2}, {3, -1}, {4, 0}, {5, 1}})
	checkRows(t, q, "with r(a, b) as (select x.b, -x.a from e x where x.a < 4 union select 2, x.a from e x where x.a < 3) select row_number() over (), r.a, r.b from r r", [][]int{{1, 1, -3}, {2, 2, -1}, {3, 2, 1}, {4, 2, 2}, {5, 3, -2}})
	checkRows(t, q, "with r(n) as (select 3 - x.a from e x union select r.n from r r) select row_number() over (), x.n, y.n from r x, r y where x.n > 0 and y.n > 0", [][]int{{1, 1, 1}, {2, 1, 2}, {3, 2, 1}, {4, 2, 2}})
	checkRows(t, q, "with r(n) as (select 3 - x.a from e x union select r.n from r r) select row_number() over (order by x.b), x.b, r.n from e x, r r where x.a < 3 and r.n > 0", [][]int{{1, 2, 1}, {2, 2, 2}, {3, 3, 1}, {4, 3, 2}})
	checkRows(t, q, "with r(n) as (select 3 - x.a from e x union select r.n from r r) select row_number() over (partition by r.n * r.n), r.n from r r", [][]int{{1, -1}, {1, 0}, {1, 2}, {2, 1}})
}

func TestWithNames(t *testing.T) { // P7: which names mean the table, and its columns
	q := mustNew(t, edges())
	checkRows(t, q, "with a(a) as (select a.a from e a union select a.a from a a) select a.a from a a", upTo(4))
	checkRows(t, q, "with r(e) as (select e.a from e e union select e.e from r e) select e.e from r e", upTo(4))
	checkRows(t, q, "with r(n) as (select r.a as x from e r union select x.n as y from r x) select y.n from r y", upTo(4))
	checkRows(t, q, "with r(a, b, c, d, e, f) as (select 1, 2, 3, 4, 5, x.a from e x union select r.b, r.c, r.d, r.e, r.f, 9 from r r where r.f < 2) select r.a, r.b, r.c, r.d, r.e, r.f from r r", [][]int{{1, 2, 3, 4, 5, 1}, {1, 2, 3, 4, 5, 2}, {1, 2, 3, 4, 5, 3}, {1, 2, 3, 4, 5, 4}, {2, 3, 4, 5, 1, 9}})
	checkRows(t, q, "with abcdefgh(_) as (select 1 from e x union select _._ + 1 from abcdefgh _ where _._ < 3) select _._ from abcdefgh _", upTo(3))
	// what one query makes is gone behind it
	checkRows(t, q, "with r(a) as (select 1 from e x union select 1 from r x) select r.a from r r", column(1))
	checkAt(t, q, "select r.a from ^r r", api.ErrTable)
	checkRows(t, q, "with r(b, c) as (select 2, 3 from e x union select 2, 3 from r x) select r.b from r r", column(2))
	checkAt(t, q, "with r(b) as (select 2 from e x union select 3 from r x) select r.^a from r r", api.ErrColumn)
}

func TestWithMeaning(t *testing.T) { // P7: each error that a query with `with` can have, at its token
	q := mustNew(t, edges(), ones("f", 1))
	for marked, want := range map[string]error{
		// its names
		"with ^e(a) as (select 1 from e x union select 1 from e x) select 1 from e x":                   api.ErrTwice,
		"with ^f(a) as (select 1 from e x union select 1 from e x) select 1 from e x":                   api.ErrTwice,
		"with r(a, ^a) as (select 1, 2 from e x union select 1, 2 from e x) select 1 from e x":          api.ErrTwice,
		"with r(a, b, ^a) as (select 1, 2, 3 from e x union select 1, 2, 3 from e x) select 1 from e x": api.ErrTwice,
		"with r(a, b, ^b, a) as (select 1 from e x union select 1 from e x) select 1 from e x":          api.ErrTwice,
		"with r(a, b, c, d, e, ^e) as (select 1 from e x union select 1 from e x) select 1 from e x":    api.ErrTwice,
		"with r(a, ^a, a) as (select 1 from e x union select 1 from e x) select 1 from e x":             api.ErrTwice,
		"with\tr ( a ,\n^a ) as (select 1 from e x union select 1 from e x) select 1 from e x":          api.ErrTwice,
		// the first select: the table is none
		"with r(a) as (select 1 from ^r x union select 1 from e x) select 1 from e x":                         api.ErrTable,
		"with r(a) as (select 1 from e x, ^r y union select 1 from e x) select 1 from e x":                    api.ErrTable,
		"with r(a) as (select 1 from ^q x union select 1 from e x) select 1 from e x":                         api.ErrTable,
		"with r(a) as (select 1 from e x, f ^x union select 1 from e x) select 1 from e x":                    api.ErrTwice,
		"with r(a) as (select ^r.a from e x union select 1 from r r) select 1 from e x":                       api.ErrTable,
		"with r(a) as (select x.^c from e x union select 1 from r r) select 1 from e x":                       api.ErrColumn,
		"with r(a) as (select 1 from e x where x.^c = 1 union select 1 from r r) select 1 from e x":           api.ErrColumn,
		"with r(a) as (select 1 from e x where 1 = 1 and 2 = ^y.a union select 1 from r r) select 1 from e x": api.ErrTable,
		// the second one
		"with r(a) as (select 1 from e x union select 1 from ^q x) select 1 from e x":               api.ErrTable,
		"with r(a) as (select 1 from e x union select 1 from r x, ^q y) select 1 from e x":          api.ErrTable,
		"with r(a) as (select 1 from e x union select 1 from r x, r ^x) select 1 from e x":          api.ErrTwice,
		"with r(a) as (select 1 from e x union select 1 from r r, e ^r) select 1 from e x":          api.ErrTwice,
		"with r(a) as (select 1 from e x union select ^r.a from r x) select 1 from e x":             api.ErrTable,
		"with r(a) as (select 1 from e x union select x.^b from r x) select 1 from e x":             api.ErrColumn,
		"with r(c) as (select x.a from e x union select x.^a from r x) select 1 from e x":           api.ErrColumn,
		"with r(a) as (select 1 from e x union select 1 from r y where ^x.a = 1) select 1 from e x": api.ErrTable,
		"with r(a) as (select 1 as n from e x union select x.^n from r x) select 1 from e x":        api.ErrColumn,
		// the main one
		"with r(a) as (select 1 from e x union select 1 from r x) select 1 from ^q x":                                            api.ErrTable,
		"with r(a) as (select 1 from e x union select 1 from r x) select 1 from r r, r ^r":                                       api.ErrTwice,
		"with r(a) as (select 1 from e x union select 1 from r x) select ^r.a from r x":                                          api.ErrTable,
		"with r(a) as (select 1 from e x union select 1 from r x) select x.^b from r x":                                          api.ErrColumn,
		"with r(a) as (select 1 from e x union select 1 from r x) select 1 from e x where ^r.a = 1":                              api.ErrTable,
		"with r(a) as (select 1 from e x union select 1 from r x) select ^x.a from r y":                                          api.ErrTable,
		"with r(a) as (select 1 from e x union select 1 from r x) select sum(y.^b) over () from r y":                             api.ErrColumn,
		"with r(a) as (select 1 from e x union select 1 from r x) select count() over (partition by y.a order by ^x.a) from r y": api.ErrTable,
	} {
		checkAt(t, q, marked, want)
	}
}

func TestWindowsInWith(t *testing.T) { // P7: ErrWindow at the call
	q := mustNew(t, edges())
	for _, call := range []string{"row_number()", "count()", "sum(x.a)", "min(x.a)", "max(x.a)", "sum(q.q)", "max(x.q)"} {
		for _, over := range []string{"()", "(partition by x.a)", "(partition by q.q order by q.q)", "(order by x.q)", "(rows 1 preceding)"} {
			window := call + " over " + over
			checkAt(t, q, "with r(a) as (select ^"+window+" from e x union select 1 from e x) select 1 from e x", api.ErrWindow)
			checkAt(t, q, "with r(a) as (select 1 from e x union select ^"+window+" from r x) select 1 from e x", api.ErrWindow)
			checkAt(t, q, "with r(a, b) as (select 1, ^"+window+" as w from e x union select "+window+", 1 from r x) select 1 from e x", api.ErrWindow)
			checkAt(t, q, "with r(a, b) as (select 1, 2 from e x union select 1, ^"+window+" from r x where q.q = 1) select 1 from e x", api.ErrWindow)
		}
	}
	checkRows(t, q, "with r(a) as (select x.a from e x union select 1 from e x) select sum(r.a) over () from r r", column(1, 3, 6, 10))
}

func TestShapes(t *testing.T) { // P7: ErrShape at `union`, and at the bracket that ends `with`
	q := mustNew(t, edges())
	items := func(n int) string { return strings.Repeat("x.a, ", n-1) + "x.a" }
	names := []string{"a", "b", "c", "d", "e", "f"}
	for wide := 1; wide <= 6; wide++ {
		head := "with r(" + strings.Join(names[:wide], ", ") + ") as (select "
		for n := 1; n <= 6; n++ {
			if n == wide {
				a, err := q.Ask(head + items(n) + " from e x union select " + items(n) + " from e x) select 1 from e x")
				if err != nil || len(a.Rows) != 4 {
					t.Errorf("%d items for %d names: %v, %v", n, wide, a, err)
				}
				continue
			}
			checkAt(t, q, head+items(n)+" from e x ^union select "+items(wide)+" from e x) select 1 from e x", api.ErrShape)
			checkAt(t, q, head+items(wide)+" from e x union select "+items(n)+" from r x^) select 1 from e x", api.ErrShape)
			checkAt(t, q, head+items(n)+" from e x where x.a = 1 ^union select "+items(n)+" from r x) select 1 from e x", api.ErrShape)
			checkAt(t, q, head+items(wide)+" from e x union select "+items(n)+" from r x where (x.a) = (1)\n^) select 1 from e x", api.ErrShape)
		}
	}
}

func TestFirstOfWith(t *testing.T) { // P7: the first from left to right decides; in a select its sources, items, tests
	q := mustNew(t, edges())
	for marked, want := range map[string]error{
		"with ^e(a, a) as (select q.q, 2 from q x union select q.q, 2 from q x) select q.q from q x":                             api.ErrTwice,
		"with r(a, ^a) as (select q.q, 2, 3 from q x union select q.q from q x) select q.q from q x":                             api.ErrTwice,
		"with r(a) as (select q.q, count() over () from ^q x union select q.q, 2 from q x) select q.q from q x":                  api.ErrTable,
		"with r(a) as (select q.q, count() over () from e x, e ^x where q.q = 1 union select q.q, 2 from q x) select 1 from q x": api.ErrTwice,
		"with r(a) as (select ^q.q, count() over () from e x where w.w = 1 union select q.q, 2 from q x) select 1 from q x":      api.ErrTable,
		"with r(a) as (select x.^q, count() over () from e x where w.w = 1 union select q.q, 2 from q x) select 1 from q x":      api.ErrColumn,
		"with r(a) as (select ^count() over (), q.q from e x where w.w = 1 union select q.q, 2 from q x) select 1 from q x":      api.ErrWindow,
		"with r(a) as (select 1, ^count() over () from e x where w.w = 1 union select q.q, 2 from q x) select 1 from q x":        api.ErrWindow,
		"with r(a) as (select 1, 2 from e x where ^w.w = 1 union select q.q, 2 from q x) select 1 from q x":                      api.ErrTable,
		"with r(a) as (select 1, 2 from e x where x.^w = q.q union select q.q, 2 from q x) select 1 from q x":                    api.ErrColumn,
		"with r(a) as (select 1, 2 from e x ^union select q.q, 2 from q x) select q.q from q x":                                  api.ErrShape,
		"with r(a) as (select 1 from e x union select q.q, 2 from ^q x) select q.q from q x":                                     api.ErrTable,
		"with r(a) as (select 1 from e x union select q.q, sum(q.q) over () from r x, r ^x where w.w = 1) select q.q from q x":   api.ErrTwice,
		"with r(a) as (select 1 from e x union select ^q.q, sum(q.q) over () from r x where w.w = 1) select q.q from q x":        api.ErrTable,
		"with r(a) as (select 1 from e x union select 2, ^sum(q.q) over () from r x where w.w = 1) select q.q from q x":          api.ErrWindow,
		"with r(a) as (select 1 from e x union select 2, 3 from r x where ^w.w = 1) select q.q from q x":                         api.ErrTable,
		"with r(a) as (select 1 from e x union select 2, 3 from r x^) select q.q from q x":                                       api.ErrShape,
		"with r(a) as (select 1 from e x union select 2 from r x) select q.q from ^q x where w.w = 1":                            api.ErrTable,
		"with r(a) as (select 1 from e x union select 2 from r x) select q.q from r x, r ^x where w.w = 1":                       api.ErrTwice,
		"with r(a) as (select 1 from e x union select 2 from r x) select sum(^q.q) over () from r x where w.w = 1":               api.ErrTable,
		"with r(a) as (select 1 from e x union select 2 from r x) select 1, 2 from r x where x.^b = 1":                           api.ErrColumn,
	} {
		checkAt(t, q, marked, want)
	}
}

func TestWithTextErrors(t *testing.T) { // P7: the errors of P3 and P4, ahead of those of meaning
	q := mustNew(t, edges())
	for marked, want := range map[string]error{
		"with e(a, a) as (select q.q from q x union select 1 from e x) select 1 from e ^":                          api.ErrSyntax,
		"with e(a, a) as (select q.q from q x union select 1 from e x) select 1 from e x ^)":                       api.ErrSyntax,
		"with e(a, a) as (select q.q from q x union select 1 from e x) select 1 from e x where 1 = ^?":             api.ErrByte,
		"with e(a, a) as (select q.q from q x union select 1 from e x) select ^1000000001 from e x":                api.ErrNumber,
		"with e(a, a) as (select q.q from q x union select count() over () from e x) select ^from e x":             api.ErrSyntax,
		"with e(a, a) as (select q.q from q x ^) select 1 from e x":                                                api.ErrSyntax,
		"with e(a, a) as (select q.q from q x union select 1 from e x ^union select 1 from e x) select 1 from e x": api.ErrSyntax,
		"with e(a, a, b, c, d, f, ^g) as (select q.q from q x union select 1 from e x) select 1 from e x":          api.ErrMany,
		"with e(a, a) as (select q.q from q x, q x, q x, ^q x union select 1 from e x) select 1 from e x":          api.ErrMany,
	} {
		checkAt(t, q, marked, want)
	}
	checkWrong(t, q, "with e(a, a) as (select q.q from q x union select 1 from e x) select 1 from e x"+strings.Repeat("\n", 1000), api.ErrLong, -1)
	checkKnown(t, q, 0)
}

func TestManyBehindMeaning(t *testing.T) { // P7: ErrMany without a place, behind all errors of meaning
	q := mustNew(t, edges(), ones("t", 200))
	for _, with := range []string{
		"with r(a) as (select 1 from t x, t y union select 1 from e x) ",
		"with r(a) as (select 1 from e x union select 1 from t x, t y) ",
		"with r(a) as (select 1 from e x union select r.a + 1 from r r) ",
	} {
		checkMany(t, q, with+"select 1 from r x")
		checkMany(t, q, with+"select 1 from e x")
		checkAt(t, q, with+"select 1 from ^q x", api.ErrTable)
		checkAt(t, q, with+"select 1 from r x, e ^x", api.ErrTwice)
		checkAt(t, q, with+"select 1, x.^b from r x", api.ErrColumn)
		checkAt(t, q, with+"select count() over (order by ^y.a) from r x", api.ErrTable)
		checkAt(t, q, with+"select 1 from r x, r y, r z where x.^b = 1", api.ErrColumn)
	}
	checkAt(t, q, "with r(a) as (select 1 from t x, t y union select ^q.a from e x) select 1 from e x", api.ErrTable)
	checkAt(t, q, "with r(a) as (select 1 from t x, t y union select 1, 2 from e x^) select 1 from e x", api.ErrShape)
}

func TestTablesStayAsTheyAre(t *testing.T) { // P2: a table that a query makes is its own
	table := edges()
	q := mustNew(t, table, ones("f", 2))
	const text = "with r(a, b) as (select x.b, x.a from e x union select x.a, y.b from r x, r y where x.b = y.a) select r.a, r.b from r r"
	first, err := q.Ask(text)
	if err != nil || len(first.Rows) != 10 {
		t.Fatalf("%v, %v", first, err)
	}
	spoil(first)
	second, _ := q.Ask(text)
	third, _ := q.Ask(text)
	spoil(second)
	if len(third.Rows) != 10 || third.Rows[0][0] != 1 || third.Rows[9][0] != 4 {
		t.Errorf("two answers share room: %v", third)
	}
	checkRows(t, q, "select x.a, x.b from e x", [][]int{{1, 2}, {2, 3}, {3, 1}, {4, 4}})
	checkRows(t, q, "select row_number() over (), x.a from e x", [][]int{{1, 1}, {2, 2}, {3, 3}, {4, 4}})
	if !reflect.DeepEqual(table, edges()) {
		t.Errorf("what was handed in is %v", table)
	}
}

// closed tells whether a table of pairs has the first select's rows, and all that the second one gives over it.
func closed(t *testing.T, e api.Table, rows [][]int, first, second string) bool {
	t.Helper()
	q := mustNew(t, e, api.Table{Name: "r", Columns: []string{"a", "b"}, Rows: rows})
	for _, result := range q.All([]string{first, second}) {
		if result.Err != nil {
			t.Fatal(result.Err)
		}
		for _, row := range result.Answer.Rows {
			if !slices.ContainsFunc(rows, func(other []int) bool { return slices.Equal(row, other) }) {
				return false
			}
		}
	}
	return true
}

func TestLeastTable(t *testing.T) { // P13: of all tables that have the first select's rows, and what the second one gives over them
	const first = "select x.a, x.b from e x"
	e := api.Table{Name: "e", Columns: []string{"a", "b"}, Rows: [][]int{{1, 2}, {3, 1}, {3, 3}}}
	for _, second := range []string{
		"select x.a, y.b from r x, e y where x.b = y.a",
		"select x.a, y.b from r x, r y where x.b = y.a",
		"select x.b, x.a from r x",
		"select x.b, y.a from r x, e y where y.b <> x.a",
		"select x.a, x.a from e x",
	} {
		made, err := mustNew(t, e).Ask("with r(a, b) as (" + first + " union " + second + ") select r.a, r.b from r r")
		if err != nil || !closed(t, e, made.Rows, first, second) {
			t.Errorf("%q makes %v, %v", second, made.Rows, err)
		}
		for set := range 1 << 9 { // of the nine pairs of 1, 2 and 3
			var rows [][]int
			for i := range 9 {
				if set>>i&1 == 1 {
					rows = append(rows, []int{i/3 + 1, i%3 + 1})
				}
			}
			if len(rows) < len(made.Rows) && closed(t, e, rows, first, second) {
				t.Errorf("%q makes %v, though %v is less", second, made.Rows, rows)
			}
		}
	}
}
