package syntax

import (
	"slices"

	"quarry/api"
)

// Read gives the parts of the query that a text is.
func Read(text string) (*Query, error) {
	tokens, err := scan(text)
	if err != nil {
		return nil, err
	}
	r := &reader{tokens: tokens}
	q := r.query()
	if r.peek().kind != kindEnd {
		r.fail(api.ErrSyntax)
	}
	if r.err != nil {
		return nil, r.err
	}
	return q, nil
}

// reader goes through tokens. Once it has failed it stands at their end, where
// nothing more can be taken: so every form is read without asking for errors,
// and the first error is the one that stays.
type reader struct {
	tokens []token
	next   int
	deep   int // brackets and minuses around the factor that is next
	err    error
}

func (r *reader) peek() token { return r.tokens[r.next] }

// fail notes an error at the next token, unless there is one already.
func (r *reader) fail(err error) {
	if r.err == nil {
		r.err = r.peek().Wrong(err)
	}
	r.next = len(r.tokens) - 1
}

// take takes the next token, if it is this word or sign.
func (r *reader) take(text string) bool { return r.takeOne(text) != "" }

// takeOne takes the next token, if it is one of these words or signs, and gives its text.
func (r *reader) takeOne(texts ...string) string {
	t := r.peek()
	if t.kind != kindFixed || !slices.Contains(texts, t.text) {
		return ""
	}
	r.next++
	return t.text
}

// want takes the next token, which must be one of these words or signs, and
// gives its text.
func (r *reader) want(texts ...string) string {
	text := r.takeOne(texts...)
	if text == "" {
		r.fail(api.ErrSyntax)
	}
	return text
}

func (r *reader) wantKind(k kind) token {
	t := r.peek()
	if t.kind != k {
		r.fail(api.ErrSyntax)
		return token{}
	}
	r.next++
	return t
}

func (r *reader) name() Name {
	t := r.wantKind(kindName)
	return Name{t.Part, t.text}
}

func (r *reader) number() *Number {
	t := r.wantKind(kindNumber)
	return &Number{t.Part, t.value, t.text}
}

// list reads ones with commas between them, and fails where one is more than most.
func list[T any](r *reader, most int, one func() T) []T {
	all := []T{one()}
	for r.take(",") {
		if len(all) == most {
			r.fail(api.ErrMany)
		}
		all = append(all, one())
	}
	return all
}

func (r *reader) query() *Query {
	q := &Query{Part: r.peek().Part}
	if r.take("with") {
		q.With = r.with(q.Part)
	}
	q.Main = r.selection()
	return q
}

func (r *reader) with(start Part) *With {
	w := &With{Part: start}
	w.Name = r.name()
	r.want("(")
	w.Columns = list(r, api.MaxColumns, r.name)
	r.want(")")
	r.want("as")
	r.want("(")
	w.First = r.selection()
	w.Union = r.peek().Part
	r.want("union")
	w.Second = r.selection()
	w.End = r.peek().Part
	r.want(")")
	return w
}

func (r *reader) selection() *Select {
	s := &Select{Part: r.peek().Part}
	r.want("select")
	s.Items = list(r, api.MaxColumns, r.item)
	r.want("from")
	s.Sources = list(r, api.MaxSources, r.source)
	if r.take("where") {
		s.Tests = append(s.Tests, r.test())
		for r.take("and") {
			s.Tests = append(s.Tests, r.test())
		}
	}
	return s
}

func (r *reader) item() Item {
	i := Item{Part: r.peek().Part}
	if call := r.takeOne("row_number", "count", "sum", "min", "max"); call != "" {
		i.Window = r.window(i.Part, call)
	} else {
		i.Value = r.expr()
	}
	if r.take("as") {
		i.As = r.name()
	}
	return i
}

func (r *reader) window(start Part, call string) *Window {
	w := &Window{Part: start, Call: call}
	r.want("(")
	if call != "row_number" && call != "count" {
		w.Of = r.expr()
	}
	r.want(")")
	r.want("over")
	r.want("(")
	w.Partition = r.behind("partition")
	w.Order = r.behind("order")
	if r.take("rows") {
		w.Rows = r.number()
		r.want("preceding")
	}
	r.want(")")
	return w
}

// behind reads the exprs behind a word and `by`, if they are there.
func (r *reader) behind(word string) []Expr {
	if !r.take(word) {
		return nil
	}
	r.want("by")
	return list(r, api.MaxText, r.expr) // no bound: a text has no room for so many
}

func (r *reader) source() Source {
	table := r.name()
	return Source{table.Part, table, r.name()}
}

func (r *reader) test() Pair {
	p := Pair{Part: r.peek().Part}
	p.Left = r.expr()
	p.Sign = r.want("=", "<>", "<", "<=", ">", ">=")
	p.Right = r.expr()
	return p
}

func (r *reader) expr() Expr { return r.chain(r.term, "+", "-") }

func (r *reader) term() Expr { return r.chain(r.factor, "*") }

// chain reads ones with signs between them, which bind from left to right.
func (r *reader) chain(one func() Expr, signs ...string) Expr {
	start := r.peek().Part
	left := one()
	for {
		sign := r.takeOne(signs...)
		if sign == "" {
			return left
		}
		left = &Pair{start, left, sign, one()}
	}
}

func (r *reader) factor() Expr {
	if r.deep > api.MaxDeep {
		r.fail(api.ErrMany)
		return nil
	}
	start := r.peek().Part
	switch {
	case r.take("-"):
		return &Minus{start, r.deeper(r.factor)}
	case r.take("("):
		b := &Bracket{start, r.deeper(r.expr)}
		r.want(")")
		return b
	case r.peek().kind == kindNumber:
		return r.number()
	}
	return r.column()
}

// deeper reads what stands in one more bracket or minus.
func (r *reader) deeper(inner func() Expr) Expr {
	r.deep++
	e := inner()
	r.deep--
	return e
}

func (r *reader) column() *Column {
	source := r.name()
	r.want(".")
	return &Column{source.Part, source, r.name()}
}
