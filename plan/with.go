package plan

import (
	"slices"

	"quarry/api"
	"quarry/syntax"
)

// growing is what `with` makes: a table that its second select, and the main
// one, find behind all others. They hold where it lies, so that they see its
// rows as they have become.
type growing struct {
	tables []api.Table
	first  *selection
	second *selection
}

func withMeaning(w *syntax.With, tables []api.Table) (*growing, error) {
	table, err := heading(w, tables)
	if err != nil {
		return nil, err
	}
	first, err := half(w.First, tables, len(table.Columns), w.Union)
	if err != nil {
		return nil, err
	}
	tables = slices.Concat(tables, []api.Table{table})
	second, err := half(w.Second, tables, len(table.Columns), w.End)
	if err != nil {
		return nil, err
	}
	return &growing{tables, first, second}, nil
}

// heading is the table without its rows.
func heading(w *syntax.With, tables []api.Table) (api.Table, error) {
	table := api.Table{Name: w.Name.Text}
	if tableNamed(tables, table.Name) != nil {
		return api.Table{}, w.Name.Wrong(api.ErrTwice)
	}
	for _, column := range w.Columns {
		if slices.Contains(table.Columns, column.Text) {
			return api.Table{}, column.Wrong(api.ErrTwice)
		}
		table.Columns = append(table.Columns, column.Text)
	}
	return table, nil
}

// half finds what one of the two selects of `with` means. Behind it stands the
// token where it is told that the select is not as wide as the table.
func half(s *syntax.Select, tables []api.Table, width int, behind syntax.Part) (*selection, error) {
	f := finder{tables: tables, inWith: true}
	found, err := f.selection(s)
	if err != nil {
		return nil, err
	}
	if len(found.items) != width {
		return nil, behind.Wrong(api.ErrShape)
	}
	return found, nil
}

// grow fills the table, until the second select gives nothing more. It ends,
// because each time but the last adds a row, and there may not be many.
func (g *growing) grow() error {
	if err := g.add(g.first); err != nil {
		return err
	}
	for {
		had := len(g.table().Rows)
		if err := g.add(g.second); err != nil {
			return err
		}
		if len(g.table().Rows) == had {
			return nil
		}
	}
}

func (g *growing) table() *api.Table { return &g.tables[len(g.tables)-1] }

// add adds the rows of a select that the table does not have, and keeps it
// sorted, as it must be whenever it is gone through.
func (g *growing) add(s *selection) error {
	rows, err := s.rows()
	if err != nil {
		return err
	}
	rows = append(rows, g.table().Rows...)
	sortRows(rows)
	rows = slices.CompactFunc(rows, slices.Equal[[]int])
	if len(rows) > api.MaxRows {
		return api.ErrMany
	}
	g.table().Rows = rows
	return nil
}
