// Package plan finds what a query that was read means over tables, and works
// out its answer (P7 to P11 of DOC.md).
package plan

import (
	"slices"

	"quarry/api"
	"quarry/syntax"
)

// Answer answers a query over tables, which it only reads. All names are found
// ahead of all rows, because errors of meaning are told ahead of too many rows.
func Answer(q *syntax.Query, tables []api.Table) (api.Answer, error) {
	w, err := meaning(q, tables)
	if err != nil {
		return api.Answer{}, err
	}
	rows, err := w.rows()
	if err != nil {
		return api.Answer{}, err
	}
	sortRows(rows)
	return api.Answer{Columns: columns(q.Main), Rows: rows}, nil
}

// whole is a query whose names have been found; with is nil where it has none.
type whole struct {
	with *growing
	main *selection
}

func meaning(q *syntax.Query, tables []api.Table) (*whole, error) {
	var w whole
	if q.With != nil {
		with, err := withMeaning(q.With, tables)
		if err != nil {
			return nil, err
		}
		w.with, tables = with, with.tables
	}
	f := finder{tables: tables}
	main, err := f.selection(q.Main)
	if err != nil {
		return nil, err
	}
	w.main = main
	return &w, nil
}

// rows fills the table that `with` makes though the main select may not ask
// for it, because it may come to too many rows.
func (w *whole) rows() ([][]int, error) {
	if w.with != nil {
		if err := w.with.grow(); err != nil {
			return nil, err
		}
	}
	return w.main.rows()
}

func sortRows(rows [][]int) { slices.SortFunc(rows, slices.Compare[[]int]) }

func columns(s *syntax.Select) []string {
	names := make([]string, len(s.Items))
	for i, item := range s.Items {
		names[i] = item.As.Text
		if names[i] == "" {
			names[i] = "_"
		}
	}
	return names
}
