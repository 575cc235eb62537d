// Package query: queries as texts: see DOC.md.
package query

import "quarry/syntax"

// Tell writes a query anew (P3 to P5).
func Tell(text string) (string, error) {
	q, err := syntax.Read(text)
	if err != nil {
		return "", err
	}
	var t teller
	t.query(q)
	return t.text.String(), nil
}
