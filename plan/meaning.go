package plan

import (
	"slices"

	"quarry/api"
	"quarry/syntax"
)

// value works a number out of a row that was put together.
type value func(row []int) int

// test tells whether such a row is chosen.
type test func(row []int) bool

// selection is a select whose names have been found.
type selection struct {
	sources []source
	width   int // of a row that was put together: the columns of all sources
	items   []value
	tests   []test
}

// source is a table whose numbers stand, from first on, in a row that was put
// together.
type source struct {
	alias string
	table *api.Table
	first int
}

// finder finds what the names of a select mean. It goes on behind an error, so
// that no caller asks for one, and keeps the first.
type finder struct {
	tables []api.Table
	found  selection
	err    error
}

// meaning finds the sources ahead of the items and these ahead of the tests,
// because the first error on this way is the one that is told.
func meaning(s *syntax.Select, tables []api.Table) (*selection, error) {
	f := &finder{tables: tables}
	for _, one := range s.Sources {
		f.source(one)
	}
	for _, one := range s.Items {
		f.found.items = append(f.found.items, f.item(one))
	}
	for _, one := range s.Tests {
		f.found.tests = append(f.found.tests, f.test(one))
	}
	if f.err != nil {
		return nil, f.err
	}
	return &f.found, nil
}

func (f *finder) fail(err error) {
	if f.err == nil {
		f.err = err
	}
}

func (f *finder) source(s syntax.Source) {
	at := slices.IndexFunc(f.tables, func(t api.Table) bool { return t.Name == s.Table.Text })
	if at < 0 {
		f.fail(s.Table.Wrong(api.ErrTable))
		return
	}
	if f.spokenOf(s.Alias.Text) != nil {
		f.fail(s.Alias.Wrong(api.ErrTwice))
	}
	table := &f.tables[at]
	f.found.sources = append(f.found.sources, source{s.Alias.Text, table, f.found.width})
	f.found.width += len(table.Columns)
}

// spokenOf is the source that has this name, or nil.
func (f *finder) spokenOf(alias string) *source {
	for i := range f.found.sources {
		if f.found.sources[i].alias == alias {
			return &f.found.sources[i]
		}
	}
	return nil
}

func (f *finder) item(i syntax.Item) value {
	if i.Window != nil {
		// No window can be worked out yet.
		f.fail(i.Window.Wrong(api.ErrWindow))
		return nil
	}
	return f.value(i.Value)
}

func (f *finder) value(e syntax.Expr) value {
	switch x := e.(type) {
	case *syntax.Number:
		return func([]int) int { return x.Value }
	case *syntax.Minus:
		of := f.value(x.Of)
		return func(row []int) int { return -of(row) }
	case *syntax.Column:
		at := f.column(x)
		return func(row []int) int { return row[at] }
	case *syntax.Bracket:
		return f.value(x.Of)
	case *syntax.Pair:
		return f.pair(x)
	}
	return nil
}

func (f *finder) pair(p *syntax.Pair) value {
	left, right := f.value(p.Left), f.value(p.Right)
	switch p.Sign {
	case "+":
		return func(row []int) int { return left(row) + right(row) }
	case "-":
		return func(row []int) int { return left(row) - right(row) }
	}
	return func(row []int) int { return left(row) * right(row) }
}

// column is where the column's number stands in a row that was put together.
func (f *finder) column(c *syntax.Column) int {
	s := f.spokenOf(c.Source.Text)
	if s == nil {
		f.fail(c.Source.Wrong(api.ErrTable))
		return 0
	}
	at := slices.Index(s.table.Columns, c.Column.Text)
	if at < 0 {
		f.fail(c.Column.Wrong(api.ErrColumn))
	}
	return s.first + at
}

func (f *finder) test(p syntax.Pair) test {
	left, right := f.value(p.Left), f.value(p.Right)
	holds := comparison(p.Sign)
	return func(row []int) bool { return holds(left(row), right(row)) }
}

func comparison(sign string) func(a, b int) bool {
	switch sign {
	case "=":
		return func(a, b int) bool { return a == b }
	case "<>":
		return func(a, b int) bool { return a != b }
	case "<":
		return func(a, b int) bool { return a < b }
	case "<=":
		return func(a, b int) bool { return a <= b }
	case ">":
		return func(a, b int) bool { return a > b }
	}
	return func(a, b int) bool { return a >= b }
}
