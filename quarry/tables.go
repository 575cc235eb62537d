package quarry

import (
	"slices"
	"strings"

	"quarry/api"
	"quarry/syntax"
)

// check finds the first error of tables (P6).
func check(tables []api.Table) error {
	if len(tables) > api.MaxTables {
		return api.ErrMany
	}
	for i, t := range tables {
		if err := checkOne(t, tables[:i]); err != nil {
			return err
		}
	}
	return nil
}

// checkOne finds the first error of a table that has these ahead of it.
func checkOne(t api.Table, ahead []api.Table) error {
	switch {
	case !syntax.IsName(t.Name) || slices.ContainsFunc(t.Columns, isNoName):
		return api.ErrSyntax
	case len(t.Columns) == 0 || len(t.Columns) > api.MaxColumns || len(t.Rows) > api.MaxRows:
		return api.ErrMany
	case hasTable(ahead, t.Name) || hasTwice(t.Columns):
		return api.ErrTwice
	case slices.ContainsFunc(t.Rows, func(row []int) bool { return len(row) != len(t.Columns) }):
		return api.ErrShape
	}
	return nil
}

func isNoName(text string) bool { return !syntax.IsName(text) }

func hasTable(tables []api.Table, name string) bool {
	return slices.ContainsFunc(tables, func(t api.Table) bool { return t.Name == name })
}

func hasTwice(names []string) bool {
	for i, name := range names {
		if slices.Contains(names[:i], name) {
			return true
		}
	}
	return false
}

// copied gives tables that share nothing with these.
func copied(tables []api.Table) []api.Table {
	all := make([]api.Table, len(tables))
	for i, t := range tables {
		all[i].Name = strings.Clone(t.Name)
		for _, name := range t.Columns {
			all[i].Columns = append(all[i].Columns, strings.Clone(name))
		}
		for _, row := range t.Rows {
			all[i].Rows = append(all[i].Rows, slices.Clone(row))
		}
	}
	return all
}
