package syntax

import (
	"errors"
	"strconv"
	"strings"
	"testing"

	"quarry/api"
)

func mustRead(t *testing.T, text string) *Query {
	t.Helper()
	q, err := Read(text)
	if err != nil || q == nil {
		t.Fatalf("Read(%q) = %v, %v", text, q, err)
	}
	return q
}

// checkStands: the part stands where the text goes on like this.
func checkStands(t *testing.T, text string, p interface{ Place() int }, begin string) {
	t.Helper()
	if !strings.HasPrefix(text[p.Place():], begin) {
		t.Errorf("a part stands at %q, want %q", text[p.Place():], begin)
	}
}

// shape writes an expr with brackets around every pair.
func shape(e Expr) string {
	switch x := e.(type) {
	case *Number:
		return strconv.Itoa(x.Value)
	case *Minus:
		return "-" + shape(x.Of)
	case *Column:
		return x.Source.Text + "." + x.Column.Text
	case *Bracket:
		return "{" + shape(x.Of) + "}"
	case *Pair:
		return "(" + shape(x.Left) + x.Sign + shape(x.Right) + ")"
	}
	return "?"
}

func TestShapes(t *testing.T) { // P4
	for _, c := range []struct{ expr, want string }{
		{"7", "7"},
		{"007", "7"},
		{"1000000000", "1000000000"},
		{"x.a", "x.a"},
		{"1 - 2 - 3", "((1-2)-3)"},
		{"1 - 2 + 3", "((1-2)+3)"},
		{"1 + 2 * 3 * 4 - 5", "((1+((2*3)*4))-5)"},
		{"1 * 2 + 3", "((1*2)+3)"},
		{"(1 + 2) * 3", "({(1+2)}*3)"},
		{"-1 * 2", "(-1*2)"},
		{"1 - -2", "(1--2)"},
		{"--x.a + 1", "(--x.a+1)"},
		{"-(1 + 2)", "-{(1+2)}"},
	} {
		q := mustRead(t, "select "+c.expr+" from e x where "+c.expr+" <= 0")
		if got := shape(q.Main.Items[0].Value); got != c.want {
			t.Errorf("%s is read as %s, want %s", c.expr, got, c.want)
		}
		if got := shape(&q.Main.Tests[0]); got != "("+c.want+"<=0)" {
			t.Errorf("%s <= 0 is read as %s", c.expr, got)
		}
	}
}

func TestPartsOfWith(t *testing.T) { // P4 and the ways
	text := " with r(c, d) as (select 1, 2 from e x union select 3, 4 from f y) select 5 from r z"
	q := mustRead(t, text)
	w := q.With
	checkStands(t, text, q, "with r")
	checkStands(t, text, w, "with r")
	checkStands(t, text, w.Name, "r(c")
	checkStands(t, text, w.Columns[0], "c, d")
	checkStands(t, text, w.Columns[1], "d)")
	checkStands(t, text, w.First, "select 1")
	checkStands(t, text, w.Union, "union")
	checkStands(t, text, w.Second, "select 3")
	checkStands(t, text, w.End, ") select 5")
	checkStands(t, text, q.Main, "select 5")
	if w.Name.Text != "r" || len(w.Columns) != 2 || w.Columns[1].Text != "d" {
		t.Errorf("with is read as %+v", w)
	}
	if mustRead(t, "select 1 from e x").With != nil {
		t.Errorf("with is read where it is left out")
	}
}

func TestPartsOfSelect(t *testing.T) { // P4 and the ways
	text := "select -x.a + 2 as s, (1) from e x, f y where x.a < 3 and 4 <> y.b"
	s := mustRead(t, text).Main
	checkStands(t, text, s.Items[0], "-x.a + 2 as")
	checkStands(t, text, s.Items[0].As, "s,")
	checkStands(t, text, s.Items[1], "(1)")
	checkStands(t, text, s.Sources[1], "f y")
	checkStands(t, text, s.Sources[1].Table, "f y")
	checkStands(t, text, s.Sources[1].Alias, "y where")
	checkStands(t, text, s.Tests[0], "x.a < 3")
	checkStands(t, text, s.Tests[1], "4 <>")
	checkStands(t, text, s.Tests[1].Right, "y.b")
	column := s.Tests[1].Right.(*Column)
	checkStands(t, text, column.Column, "b")
	sum := s.Items[0].Value.(*Pair)
	checkStands(t, text, sum, "-x.a")
	checkStands(t, text, sum.Left, "-x.a")
	checkStands(t, text, sum.Left.(*Minus).Of, "x.a + 2")
	checkStands(t, text, sum.Right, "2 as")
	checkStands(t, text, s.Items[1].Value.(*Bracket).Of, "1)")
	if len(s.Items) != 2 || len(s.Sources) != 2 || len(s.Tests) != 2 || s.Items[1].As.Text != "" {
		t.Errorf("the select is read as %+v", s)
	}
}

func TestPartsOfWindow(t *testing.T) { // P4 and the ways
	text := "select 1, max(x.a) over (partition by x.b, 2 order by 3 rows 04 preceding) from e x"
	i := mustRead(t, text).Main.Items[1]
	w := i.Window
	checkStands(t, text, i, "max")
	checkStands(t, text, w, "max")
	checkStands(t, text, w.Of, "x.a)")
	checkStands(t, text, w.Partition[1], "2 order")
	checkStands(t, text, w.Order[0], "3 rows")
	checkStands(t, text, w.Rows, "04")
	if i.Value != nil || w.Call != "max" || len(w.Partition) != 2 || len(w.Order) != 1 || w.Rows.Value != 4 || w.Rows.Digits != "04" {
		t.Errorf("the window is read as %+v", w)
	}
	bare := mustRead(t, "select count() over () from e x").Main.Items[0].Window
	if bare.Call != "count" || bare.Of != nil || bare.Partition != nil || bare.Order != nil || bare.Rows != nil {
		t.Errorf("the bare window is read as %+v", bare)
	}
}

func TestWrong(t *testing.T) { // the ways: what goes wrong at a place is wrapped
	q := mustRead(t, "select 1 from e x")
	err := q.Main.Sources[0].Table.Wrong(api.ErrTable)
	var at *api.At
	if !errors.Is(err, api.ErrTable) || !errors.As(err, &at) || at.Place != 14 || errors.Unwrap(err) != api.ErrTable {
		t.Errorf("wrong at a table: %v", err)
	}
}

func TestNothingBesideAnError(t *testing.T) { // P1
	for _, text := range []string{"", "?", "select", "select 1 from e x x", "select 1,1,1,1,1,1,1", strings.Repeat(" ", api.MaxText+1)} {
		if q, err := Read(text); q != nil || err == nil {
			t.Errorf("Read(%q) = %v, %v", text, q, err)
		}
	}
}

func TestIsName(t *testing.T) { // Words
	for _, name := range []string{"a", "z", "_", "abcdefgh", "________", "selects", "ro"} {
		if !IsName(name) {
			t.Errorf("IsName(%q) is false", name)
		}
	}
	wrong := strings.Fields("and as by count from max min order over partition preceding row_number rows select sum union where with")
	for _, text := range append(wrong, "", "abcdefghi", "A", "a1", "a b", "a.", "`", "{", "é", "a\x00") {
		if IsName(text) {
			t.Errorf("IsName(%q) is true", text)
		}
	}
}
