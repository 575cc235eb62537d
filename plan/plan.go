// Package plan finds what a query that was read means over tables, and works
// out its answer (P7, P8 and P11 of DOC.md).
package plan

import (
	"slices"

	"quarry/api"
	"quarry/syntax"
)

// Answer answers a query over tables, which it only reads.
func Answer(q *syntax.Query, tables []api.Table) (api.Answer, error) {
	if q.With != nil {
		// No table can be made by a query yet.
		return api.Answer{}, q.With.Name.Wrong(api.ErrTable)
	}
	s, err := meaning(q.Main, tables)
	if err != nil {
		return api.Answer{}, err
	}
	rows, err := s.rows()
	if err != nil {
		return api.Answer{}, err
	}
	slices.SortFunc(rows, slices.Compare[[]int])
	return api.Answer{Columns: columns(q.Main), Rows: rows}, nil
}

func columns(s *syntax.Select) []string {
	names := make([]string, len(s.Items))
	for i, item := range s.Items {
		names[i] = item.As.Text
		if names[i] == "" {
			names[i] = "_"
		}
	}
	return names
}
