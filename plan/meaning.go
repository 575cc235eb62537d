package plan

import (
	"math"
	"slices"

	"quarry/api"
	"quarry/syntax"
)

// value works a number out of a row that was put together.
type value func(row []int) int

// test tells whether such a row is chosen.
type test func(row []int) bool

// item works out its number for each of the rows that were chosen: it is given
// all of them, because a window looks at many for each one.
type item func(rows [][]int) []int

// selection is a select whose names have been found.
type selection struct {
	sources []source
	width   int // of a row that was put together: the columns of all sources
	items   []item
	tests   []test
}

// source is a table whose numbers stand, from first on, in a row that was put
// together.
type source struct {
	alias string
	table *api.Table
	first int
}

// finder finds what the names of a select mean. It goes on behind an error, so
// that no caller asks for one, and keeps the first.
type finder struct {
	tables []api.Table
	inWith bool // where no window may be
	found  selection
	err    error
}

// selection finds the sources ahead of the items and these ahead of the tests,
// because the first error on this way is the one that is told.
func (f *finder) selection(s *syntax.Select) (*selection, error) {
	for _, one := range s.Sources {
		f.source(one)
	}
	for _, one := range s.Items {
		f.found.items = append(f.found.items, f.item(one))
	}
	for _, one := range s.Tests {
		f.found.tests = append(f.found.tests, f.test(one))
	}
	if f.err != nil {
		return nil, f.err
	}
	return &f.found, nil
}

func (f *finder) fail(err error) {
	if f.err == nil {
		f.err = err
	}
}

func (f *finder) source(s syntax.Source) {
	table := tableNamed(f.tables, s.Table.Text)
	if table == nil {
		f.fail(s.Table.Wrong(api.ErrTable))
		return
	}
	if f.spokenOf(s.Alias.Text) != nil {
		f.fail(s.Alias.Wrong(api.ErrTwice))
	}
	f.found.sources = append(f.found.sources, source{s.Alias.Text, table, f.found.width})
	f.found.width += len(table.Columns)
}

// tableNamed is where the table that has this name lies, or nil.
func tableNamed(tables []api.Table, name string) *api.Table {
	for i := range tables {
		if tables[i].Name == name {
			return &tables[i]
		}
	}
	return nil
}

// spokenOf is the source that has this name, or nil.
func (f *finder) spokenOf(alias string) *source {
	for i := range f.found.sources {
		if f.found.sources[i].alias == alias {
			return &f.found.sources[i]
		}
	}
	return nil
}

func (f *finder) item(i syntax.Item) item {
	if i.Window != nil {
		return f.window(i.Window)
	}
	number := f.value(i.Value)
	return func(rows [][]int) []int {
		numbers := make([]int, len(rows))
		for at, row := range rows {
			numbers[at] = number(row)
		}
		return numbers
	}
}

func (f *finder) window(w *syntax.Window) item {
	if f.inWith {
		f.fail(w.Wrong(api.ErrWindow))
	}
	found := window{call: callNamed(w.Call), ahead: math.MaxInt}
	found.of = func([]int) int { return 0 }
	if w.Of != nil {
		found.of = f.value(w.Of)
	}
	found.partition = f.values(w.Partition)
	found.order = f.values(w.Order)
	if w.Rows != nil {
		found.ahead = w.Rows.Value
	}
	return found.numbers
}

func (f *finder) values(exprs []syntax.Expr) []value {
	var all []value
	for _, e := range exprs {
		all = append(all, f.value(e))
	}
	return all
}

func (f *finder) value(e syntax.Expr) value {
	switch x := e.(type) {
	case *syntax.Number:
		return func([]int) int { return x.Value }
	case *syntax.Minus:
		of := f.value(x.Of)
		return func(row []int) int { return -of(row) }
	case *syntax.Column:
		at := f.column(x)
		return func(row []int) int { return row[at] }
	case *syntax.Bracket:
		return f.value(x.Of)
	case *syntax.Pair:
		return f.pair(x)
	}
	return nil
}

func (f *finder) pair(p *syntax.Pair) value {
	left, right := f.value(p.Left), f.value(p.Right)
	switch p.Sign {
	case "+":
		return func(row []int) int { return left(row) + right(row) }
	case "-":
		return func(row []int) int { return left(row) - right(row) }
	}
	return func(row []int) int { return left(row) * right(row) }
}

// column is where the column's number stands in a row that was put together.
func (f *finder) column(c *syntax.Column) int {
	s := f.spokenOf(c.Source.Text)
	if s == nil {
		f.fail(c.Source.Wrong(api.ErrTable))
		return 0
	}
	at := slices.Index(s.table.Columns, c.Column.Text)
	if at < 0 {
		f.fail(c.Column.Wrong(api.ErrColumn))
	}
	return s.first + at
}

func (f *finder) test(p syntax.Pair) test {
	left, right := f.value(p.Left), f.value(p.Right)
	holds := comparison(p.Sign)
	return func(row []int) bool { return holds(left(row), right(row)) }
}

func comparison(sign string) func(a, b int) bool {
	switch sign {
	case "=":
		return func(a, b int) bool { return a == b }
	case "<>":
		return func(a, b int) bool { return a != b }
	case "<":
		return func(a, b int) bool { return a < b }
	case "<=":
		return func(a, b int) bool { return a <= b }
	case ">":
		return func(a, b int) bool { return a > b }
	}
	return func(a, b int) bool { return a >= b }
}
