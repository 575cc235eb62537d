package quarry

import (
	"fmt"
	"reflect"
	"slices"
	"strings"
	"testing"

	"quarry/api"
)

// edges is the document's table.
func edges() api.Table {
	return api.Table{Name: "e", Columns: []string{"a", "b"}, Rows: [][]int{{1, 2}, {2, 3}, {3, 1}, {4, 4}}}
}

// ones is a table with one column, and as many rows.
func ones(name string, rows int) api.Table {
	t := api.Table{Name: name, Columns: []string{"a"}}
	for range rows {
		t.Rows = append(t.Rows, []int{1})
	}
	return t
}

func mustNew(t *testing.T, tables ...api.Table) *Quarry {
	t.Helper()
	q, err := New(tables)
	if err != nil || q == nil {
		t.Fatalf("New(%v) = %v, %v", tables, q, err)
	}
	return q
}

// checkNew: New answers this very error, which has no place; a quarry only without one.
func checkNew(t *testing.T, want error, tables ...api.Table) {
	t.Helper()
	before := deepCopy(tables)
	q, err := New(tables)
	if err != want || (q == nil) != (want != nil) {
		t.Errorf("New(%s) = %v, %v, want %v", short(tables), q, err, want)
	}
	if !reflect.DeepEqual(tables, before) {
		t.Errorf("New has written into %s, which was %s", short(tables), short(before))
	}
}

// short tells tables, or as much of them as can be read.
func short(tables []api.Table) string { return fmt.Sprintf("%.300s", fmt.Sprint(tables)) }

// deepCopy copies tables, without their spare room. A list that is nil stays so.
func deepCopy(tables []api.Table) []api.Table {
	all := slices.Clone(tables)
	for i := range all {
		all[i].Columns = slices.Clone(all[i].Columns)
		all[i].Rows = slices.Clone(all[i].Rows)
		for j := range all[i].Rows {
			all[i].Rows[j] = slices.Clone(all[i].Rows[j])
		}
	}
	return all
}

func TestTables(t *testing.T) { // P6
	a, b, c, d := ones("a", 1), ones("b", 1), ones("c", 1), ones("d", 1)
	checkNew(t, nil)
	checkNew(t, nil, a)
	checkNew(t, nil, edges(), a, b)
	checkNew(t, nil, a, b, c, d)
	checkNew(t, api.ErrMany, a, b, c, d, ones("f", 1))
	checkNew(t, api.ErrMany, make([]api.Table, 5)...)
	checkNew(t, api.ErrMany, a, a, a, a, a)
	checkNew(t, api.ErrMany, make([]api.Table, 100000)...)
	if q, err := New([]api.Table{}); q == nil || err != nil {
		t.Errorf("New of no tables = %v, %v", q, err)
	}
}

func TestTableNames(t *testing.T) { // P6
	for _, name := range []string{"a", "z", "_", "abcdefgh", "________", "rowsx", "b_c", "ro", "e"} {
		checkNew(t, nil, ones(name, 0))
		checkNew(t, nil, api.Table{Name: "t", Columns: []string{name}})
		checkNew(t, nil, api.Table{Name: name, Columns: []string{"q", name}})
	}
	wrong := strings.Fields("and as by count from max min order over partition preceding row_number rows select sum union where with")
	wrong = append(wrong, "", "abcdefghi", "_________", "A", "aB", "Z", "a1", "1", "a b", " a", "a ", "a.b", "`", "{", "\n", "a\x00", "é", "\xff", "aé", "-", strings.Repeat("a", 100000))
	for _, name := range wrong {
		checkNew(t, api.ErrSyntax, ones(name, 1))
		checkNew(t, api.ErrSyntax, api.Table{Name: "t", Columns: []string{name}})
		checkNew(t, api.ErrSyntax, api.Table{Name: "t", Columns: []string{"a", name}})
		checkNew(t, api.ErrSyntax, api.Table{Name: "t", Columns: []string{name, "a"}})
	}
}

func TestTableBounds(t *testing.T) { // P6
	six := []string{"a", "b", "c", "d", "e", "f"}
	checkNew(t, api.ErrMany, api.Table{Name: "t"})
	checkNew(t, api.ErrMany, api.Table{Name: "t", Columns: []string{}, Rows: [][]int{{}}})
	checkNew(t, nil, api.Table{Name: "t", Columns: six[:1]})
	checkNew(t, nil, api.Table{Name: "t", Columns: six, Rows: [][]int{{1, 2, 3, 4, 5, 6}}})
	checkNew(t, api.ErrMany, api.Table{Name: "t", Columns: append(six, "g")})
	checkNew(t, nil, ones("t", 0))
	checkNew(t, nil, ones("t", 200))
	checkNew(t, api.ErrMany, ones("t", 201))
}

func TestTablesTwice(t *testing.T) { // P6
	a, b, c := ones("a", 1), ones("b", 1), ones("c", 1)
	checkNew(t, api.ErrTwice, a, a)
	checkNew(t, api.ErrTwice, a, b, c, a)
	checkNew(t, api.ErrTwice, a, b, c, b)
	checkNew(t, nil, a, b, c)
	checkNew(t, api.ErrTwice, api.Table{Name: "t", Columns: []string{"a", "a"}})
	checkNew(t, api.ErrTwice, api.Table{Name: "t", Columns: []string{"a", "b", "a"}})
	checkNew(t, api.ErrTwice, api.Table{Name: "t", Columns: []string{"b", "c", "a", "a"}})
	checkNew(t, nil, api.Table{Name: "a", Columns: []string{"a", "b"}}, api.Table{Name: "b", Columns: []string{"a", "b"}})
}

func TestTableShapes(t *testing.T) { // P6
	two := func(rows ...[]int) api.Table { return api.Table{Name: "t", Columns: []string{"a", "b"}, Rows: rows} }
	checkNew(t, nil, two([]int{1, 2}, []int{1, 2}))
	for _, row := range [][]int{nil, {}, {1}, {1, 2, 3}} {
		checkNew(t, api.ErrShape, two(row))
		checkNew(t, api.ErrShape, two([]int{1, 2}, row))
		checkNew(t, api.ErrShape, two(row, []int{1, 2}))
	}
}

// faults: of a table, in the order in which P6 names them; each can be had beside all others.
var faults = []struct {
	err error
	add func(*api.Table)
}{
	{api.ErrSyntax, func(t *api.Table) { t.Columns[1] = "by" }},
	{api.ErrMany, func(t *api.Table) { t.Rows = slices.Repeat(t.Rows, 201) }},
	{api.ErrTwice, func(t *api.Table) { t.Columns[2] = t.Columns[0] }},
	{api.ErrShape, func(t *api.Table) { t.Rows[0] = []int{1} }},
}

func TestFirstFault(t *testing.T) { // P6, P1: of several errors of a table the one that is named first
	for set := range 1 << len(faults) {
		table := api.Table{Name: "t", Columns: []string{"a", "b", "c"}, Rows: [][]int{{1, 2, 3}}}
		var want error
		for i, f := range slices.Backward(faults) {
			if set>>i&1 == 1 {
				f.add(&table)
				want = f.err
			}
		}
		checkNew(t, want, table)
	}
	a := ones("a", 1)
	checkNew(t, api.ErrSyntax, api.Table{Name: "B"})                                                              // no column
	checkNew(t, api.ErrSyntax, api.Table{Name: "b", Columns: []string{"a", "b", "c", "d", "e", "f", "G"}})        // six, and one that is no name
	checkNew(t, api.ErrSyntax, api.Table{Name: "b", Columns: []string{"a", "b", "c", "d", "e", "f", "g", "and"}}) // behind too many
	checkNew(t, api.ErrMany, a, api.Table{Name: "a"})                                                             // the same name
	checkNew(t, api.ErrMany, a, ones("a", 201))                                                                   // the same name
	checkNew(t, api.ErrMany, api.Table{Name: "b", Columns: strings.Fields("a a a a a a a")})                      // the same columns
	checkNew(t, api.ErrMany, api.Table{Name: "b", Rows: [][]int{{1}}})                                            // a row too long
	checkNew(t, api.ErrTwice, a, api.Table{Name: "a", Columns: []string{"a"}, Rows: [][]int{{}}})                 // a row too short
}

func TestFirstTable(t *testing.T) { // P6: the tables in their order
	wrong := []struct {
		err   error
		table api.Table
	}{
		{api.ErrSyntax, ones("A", 1)},
		{api.ErrMany, ones("b", 201)},
		{api.ErrTwice, api.Table{Name: "c", Columns: []string{"a", "a"}}},
		{api.ErrTwice, ones("e", 1)},
		{api.ErrShape, api.Table{Name: "d", Columns: []string{"a"}, Rows: [][]int{{}}}},
	}
	for _, first := range wrong {
		for _, second := range wrong {
			checkNew(t, first.err, edges(), first.table, second.table)
			checkNew(t, first.err, edges(), first.table, ones("f", 1), second.table)
			checkNew(t, api.ErrMany, edges(), edges(), edges(), first.table, second.table)
		}
	}
	checkNew(t, api.ErrShape, wrong[4].table, wrong[4].table) // the second one is there twice
}

// roomy gives lists with room behind their ends, and the whole of what they lie in.
func roomy() (tables []api.Table, columns []string, rows [][]int, numbers []int) {
	numbers = []int{3, 1, 2, 4, 77, 78, 79}
	rows = [][]int{numbers[0:2], numbers[2:4], {55, 56}, {57, 58}}
	columns = []string{"a", "b", "c", "d"}
	tables = []api.Table{{Name: "t", Columns: columns[:2], Rows: rows[:2]}, {Name: "u", Columns: columns[2:3]}, {Name: "v", Columns: columns}}
	return tables, columns, rows, numbers
}

func TestHandedIn(t *testing.T) { // P2: neither written into nor kept
	tables, columns, rows, numbers := roomy()
	q := mustNew(t, tables[:2]...)
	checkRows(t, q, "select x.a, x.b from t x", [][]int{{2, 4}, {3, 1}})
	tables2, columns2, rows2, numbers2 := roomy()
	if !reflect.DeepEqual([]any{tables, columns, rows, numbers}, []any{tables2, columns2, rows2, numbers2}) {
		t.Errorf("written into: %v %v %v %v", tables, columns, rows, numbers)
	}
	for i := range numbers {
		numbers[i] = -1
	}
	for i := range rows {
		rows[i] = []int{-1}
	}
	for i := range columns {
		columns[i] = "q"
	}
	for i := range tables {
		tables[i] = api.Table{Name: "q", Columns: []string{"q"}, Rows: [][]int{{-1}}}
	}
	checkRows(t, q, "select x.a, x.b from t x", [][]int{{2, 4}, {3, 1}})
	checkRows(t, q, "select x.b, x.a from t x", [][]int{{1, 3}, {4, 2}})
	checkRows(t, q, "select x.c from u x", nil)
	checkWrong(t, q, "select x.q from t x", api.ErrColumn, 9)
	checkWrong(t, q, "select 1 from v x", api.ErrTable, 14)
	checkWrong(t, q, "select 1 from q x", api.ErrTable, 14)
}

func TestApart(t *testing.T) { // P2: quarries know nothing of one another
	tables := []api.Table{edges()}
	p, q := mustNew(t, tables...), mustNew(t, tables...)
	other := mustNew(t, ones("e", 2))
	checkRows(t, p, "select x.a from e x", [][]int{{1}, {2}, {3}, {4}})
	checkKnown(t, q, 0)
	checkKnown(t, other, 0)
	checkRows(t, other, "select x.a from e x", [][]int{{1}, {1}})
	checkWrong(t, other, "select x.b from e x", api.ErrColumn, 9)
	checkRows(t, q, "select x.b from e x", [][]int{{1}, {2}, {3}, {4}})
	checkKnown(t, p, 1)
	checkKnown(t, q, 1)
	checkKnown(t, other, 2)
}
