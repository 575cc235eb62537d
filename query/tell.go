package query

import (
	"strings"

	"quarry/syntax"
)

// teller lays tokens one behind the other, with a space where one must stand.
type teller struct {
	text  strings.Builder
	tight bool // no space behind the last token
}

func (t *teller) tokens(all ...string) {
	for _, s := range all {
		if t.text.Len() > 0 && !t.tight && !tightAhead(s) {
			t.text.WriteByte(' ')
		}
		t.text.WriteString(s)
		t.tight = tightBehind(s)
	}
}

// minus is told apart from the `-` between two terms, which has a space behind it.
func (t *teller) minus() {
	t.tokens("-")
	t.tight = true
}

// tightAhead: whether no space stands ahead of the token.
func tightAhead(s string) bool { return s == ")" || s == "," || s == "." }

// tightBehind: whether no space stands behind the token. What makes a call has
// its bracket there, wherever it stands.
func tightBehind(s string) bool {
	switch s {
	case "(", ".", "row_number", "count", "sum", "min", "max":
		return true
	}
	return false
}

// list tells parts with commas between them.
func list[T any](t *teller, all []T, tell func(T)) {
	for i, one := range all {
		if i > 0 {
			t.tokens(",")
		}
		tell(one)
	}
}

func (t *teller) query(q *syntax.Query) {
	if q.With != nil {
		t.with(q.With)
	}
	t.selection(q.Main)
}

func (t *teller) with(w *syntax.With) {
	t.tokens("with", w.Name.Text, "(")
	list(t, w.Columns, t.name)
	t.tokens(")", "as", "(")
	t.selection(w.First)
	t.tokens("union")
	t.selection(w.Second)
	t.tokens(")")
}

func (t *teller) selection(s *syntax.Select) {
	t.tokens("select")
	list(t, s.Items, t.item)
	t.tokens("from")
	list(t, s.Sources, t.source)
	for i, test := range s.Tests {
		if i == 0 {
			t.tokens("where")
		} else {
			t.tokens("and")
		}
		t.pair(&test)
	}
}

func (t *teller) item(i syntax.Item) {
	if i.Window != nil {
		t.window(i.Window)
	} else {
		t.expr(i.Value)
	}
	if i.As.Text != "" {
		t.tokens("as", i.As.Text)
	}
}

func (t *teller) window(w *syntax.Window) {
	t.tokens(w.Call, "(")
	if w.Of != nil {
		t.expr(w.Of)
	}
	t.tokens(")", "over", "(")
	t.by("partition", w.Partition)
	t.by("order", w.Order)
	if w.Rows != nil {
		t.tokens("rows", w.Rows.Digits, "preceding")
	}
	t.tokens(")")
}

func (t *teller) by(word string, all []syntax.Expr) {
	if len(all) > 0 {
		t.tokens(word, "by")
		list(t, all, t.expr)
	}
}

func (t *teller) source(s syntax.Source) { t.tokens(s.Table.Text, s.Alias.Text) }

func (t *teller) name(n syntax.Name) { t.tokens(n.Text) }

func (t *teller) pair(p *syntax.Pair) {
	t.expr(p.Left)
	t.tokens(p.Sign)
	t.expr(p.Right)
}

func (t *teller) expr(e syntax.Expr) {
	switch x := e.(type) {
	case *syntax.Number:
		t.tokens(x.Digits)
	case *syntax.Minus:
		t.minus()
		t.expr(x.Of)
	case *syntax.Column:
		t.tokens(x.Source.Text, ".", x.Column.Text)
	case *syntax.Bracket:
		t.tokens("(")
		t.expr(x.Of)
		t.tokens(")")
	case *syntax.Pair:
		t.pair(x)
	}
}
