// Package syntax reads the text of a query into its parts (P3 and P4 of DOC.md).
package syntax

import "quarry/api"

// Part is what all parts of a query embed: where they stand in its text.
type Part struct{ place int }

// Place is the number of the part's first byte.
func (p Part) Place() int { return p.place }

// Wrong wraps what is wrong with the part, so that the error tells where.
func (p Part) Wrong(err error) error { return &api.At{Place: p.place, Err: err} }

// Query is a whole query; With is nil where it is left out.
type Query struct {
	Part
	With *With
	Main *Select
}

// With is the table that may refer to itself. Union and End (the bracket that
// ends it) are kept because errors of shape are told there.
type With struct {
	Part
	Name    Name
	Columns []Name
	First   *Select
	Union   Part
	Second  *Select
	End     Part
}

// Select is one select, whose tests are pairs with a sign that compares.
type Select struct {
	Part
	Items   []Item
	Sources []Source
	Tests   []Pair
}

// Item has either a Value or a Window. As has no text where it is left out.
type Item struct {
	Part
	Value  Expr
	Window *Window
	As     Name
}

// Window is a call over a window. Of is nil where the call takes nothing,
// Rows where it is left out.
type Window struct {
	Part
	Call      string
	Of        Expr
	Partition []Expr
	Order     []Expr
	Rows      *Number
}

// Source is a table's name, and the name by which its rows are spoken of.
type Source struct {
	Part
	Table Name
	Alias Name
}

// Name is a name.
type Name struct {
	Part
	Text string
}

// Expr is one of *Number, *Minus, *Column, *Bracket and *Pair.
type Expr interface{ Place() int }

// Number has its digits beside its value, because it is told with all of its zeros.
type Number struct {
	Part
	Value  int
	Digits string
}

// Minus is a factor with a minus ahead of it.
type Minus struct {
	Part
	Of Expr
}

// Column is a column of a source.
type Column struct {
	Part
	Source Name
	Column Name
}

// Bracket is an expr in brackets, which are kept because they are told as they are.
type Bracket struct {
	Part
	Of Expr
}

// Pair is two exprs with a sign between them.
type Pair struct {
	Part
	Left  Expr
	Sign  string
	Right Expr
}
