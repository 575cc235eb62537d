package query

import (
	"errors"
	"strings"
	"testing"

	"quarry/api"
)

// checkWrong: Tell answers this error, at this place, and nothing beside it.
func checkWrong(t *testing.T, text string, want error, place int) {
	t.Helper()
	told, err := Tell(text)
	if told != "" {
		t.Errorf("Tell(%q) tells %q beside an error", text, told)
	}
	if !errors.Is(err, want) {
		t.Errorf("Tell(%q): error %v, want %v", text, err, want)
	}
	var at *api.At
	if !errors.As(err, &at) || err != error(at) || at.Err != want {
		t.Errorf("Tell(%q): %v is not an *api.At with the plain error in it", text, err)
	} else if at.Place != place {
		t.Errorf("Tell(%q): at %d, want %d", text, at.Place, place)
	}
}

// checkTold: Tell answers this, and the same again when it is given that.
func checkTold(t *testing.T, text, want string) {
	t.Helper()
	if told, err := Tell(text); told != want || err != nil {
		t.Errorf("Tell(%q) = %q, %v, want %q", text, told, err, want)
	}
	if len(want) > api.MaxText {
		return
	}
	if told, err := Tell(want); told != want || err != nil {
		t.Errorf("told again: Tell(%q) = %q, %v", want, told, err)
	}
}

// checkSame: Tell gives the text back as it is.
func checkSame(t *testing.T, text string) {
	t.Helper()
	checkTold(t, text, text)
}

// wrong is a text, and what is wrong with it, and where.
type wrong struct {
	text  string
	err   error
	place int
}

func checkAllWrong(t *testing.T, all []wrong) {
	t.Helper()
	for _, w := range all {
		checkWrong(t, w.text, w.err, w.place)
	}
}

func TestLongTexts(t *testing.T) { // P3
	whole := "select 1 from e x"
	fill := api.MaxText - len(whole)
	checkTold(t, whole+strings.Repeat(" ", fill), whole)
	checkTold(t, strings.Repeat("\n", fill)+whole, whole)
	for _, text := range []string{
		whole + strings.Repeat(" ", fill+1),
		strings.Repeat(" ", api.MaxText+1),
		strings.Repeat("?", api.MaxText+1),
		strings.Repeat("(", 100000),
	} {
		if told, err := Tell(text); told != "" || err != api.ErrLong {
			t.Errorf("a text of %d bytes: %q, %v", len(text), told, err)
		}
	}
	checkWrong(t, strings.Repeat("?", api.MaxText), api.ErrByte, 0)
	checkWrong(t, strings.Repeat(" ", api.MaxText), api.ErrSyntax, api.MaxText)
}

func TestBlanks(t *testing.T) { // P3
	checkTold(t, " \t\nselect\t1\nfrom  e\n\tx\n", "select 1 from e x")
	checkTold(t, "select(1)from e x where(1)=(2)and(3)<>(4)", "select (1) from e x where (1) = (2) and (3) <> (4)")
	checkTold(t, "select 1from e x where 1<2and 3>4", "select 1 from e x where 1 < 2 and 3 > 4")
	checkTold(t, "select x\n.\ta from e x", "select x.a from e x")
	checkAllWrong(t, []wrong{
		{"select\r1 from e x", api.ErrByte, 6},
		{"select\v1 from e x", api.ErrByte, 6},
		{"select\f1 from e x", api.ErrByte, 6},
		{"select\u00a01 from e x", api.ErrByte, 6},
		{"select 1 from e x where 1 < = 2", api.ErrSyntax, 28},
		{"select 1 from e x where 1 < > 2", api.ErrSyntax, 28},
		{"select 1 from e x where 1 > = 2", api.ErrSyntax, 28},
		{"selec t 1 from e x", api.ErrSyntax, 0},
		{"select 1 2 from e x", api.ErrSyntax, 9},
		{"selectx.a from e x", api.ErrSyntax, 0},
	})
}

func TestNames(t *testing.T) { // P3
	for _, name := range []string{"a", "z", "_", "________", "abcdefgh", "a_z", "_a", "selectx", "froms", "counts", "an", "ro", "row", "number", "or", "not", "group", "overs", "union_"} {
		checkSame(t, "select "+name+"."+name+" as "+name+" from "+name+" "+name)
	}
	for _, long := range []string{"abcdefghi", "_________", "partitions", "precedin_", "row_numbers", "row_numbe", "selectselect", strings.Repeat("a", 900)} {
		checkWrong(t, "select 1 from e "+long, api.ErrSyntax, 16)
		checkWrong(t, long, api.ErrSyntax, 0)
	}
	for _, word := range strings.Fields("and as by count from max min order over partition preceding row_number rows select sum union where with") {
		checkAllWrong(t, []wrong{
			{"select 1 as " + word, api.ErrSyntax, 12},
			{"select x." + word, api.ErrSyntax, 9},
			{"select 1 from " + word, api.ErrSyntax, 14},
			{"select 1 from e " + word, api.ErrSyntax, 16},
			{"with " + word, api.ErrSyntax, 5},
			{"with r(" + word, api.ErrSyntax, 7},
		})
	}
}

func TestNumbers(t *testing.T) { // P3
	for _, digits := range []string{"0", "00", "7", "007", "999999999", "1000000000", "0001000000000", strings.Repeat("0", 900), strings.Repeat("0", 900) + "1000000000"} {
		checkSame(t, "select "+digits+" from e x")
		checkSame(t, "select count() over (rows "+digits+" preceding) from e x")
	}
	for _, digits := range []string{
		"1000000001", "0001000000001", "9999999999", "4294967296", "4294967297",
		"9223372036854775807", "9223372036854775808", "18446744073709551615", "18446744073709551616", "18446744073709551617",
		strings.Repeat("9", 900), "1" + strings.Repeat("0", 900), strings.Repeat("0", 100) + strings.Repeat("9", 100),
	} {
		checkWrong(t, "select "+digits+" from e x", api.ErrNumber, 7)
		checkWrong(t, "select -"+digits+" from e x", api.ErrNumber, 8)
		checkWrong(t, "select count() over (rows "+digits, api.ErrNumber, 26)
	}
}

func TestBytes(t *testing.T) { // P3
	known := "abcdefghijklmnopqrstuvwxyz_0123456789(),.+-*=<> \t\n"
	for c := range 256 {
		b := string([]byte{byte(c)})
		if strings.Contains(known, b) {
			continue
		}
		checkWrong(t, b, api.ErrByte, 0)
		checkWrong(t, "select 1 from e x"+b, api.ErrByte, 17)
		checkWrong(t, "select x"+b+".a from e x", api.ErrByte, 8)
		checkWrong(t, "select 1"+b+" from e x", api.ErrByte, 8)
	}
	checkWrong(t, "select ä from e x", api.ErrByte, 7)
	checkWrong(t, "select 1 from e x where 1 != 2", api.ErrByte, 26)
}

func TestFirstWrongTokenDecides(t *testing.T) { // P3
	checkAllWrong(t, []wrong{
		{"from from ?", api.ErrByte, 10},
		{"from 1000000001", api.ErrNumber, 5},
		{") abcdefghi", api.ErrSyntax, 2},
		{"? abcdefghi 1000000001", api.ErrByte, 0},
		{"abcdefghi ? 1000000001", api.ErrSyntax, 0},
		{"1000000001 ? abcdefghi", api.ErrNumber, 0},
		{"1000000001?", api.ErrNumber, 0},
		{"select 1 from e x where ?", api.ErrByte, 24},
		{"select 1,1,1,1,1,1,1 from e x ?", api.ErrByte, 30},
		{"select " + strings.Repeat("(", 17) + " ?", api.ErrByte, 25},
		{"select 1,1,1,1,1,1,abcdefghi", api.ErrSyntax, 19},
		{"select 1,1,1,1,1,1,1000000001", api.ErrNumber, 19},
	})
}

func TestSigns(t *testing.T) { // P3, P4
	for _, sign := range []string{"=", "<>", "<", "<=", ">", ">="} {
		checkTold(t, "select 1 from e x where 1"+sign+"2 and x.a"+sign+"-x.b", "select 1 from e x where 1 "+sign+" 2 and x.a "+sign+" -x.b")
		checkWrong(t, "select 1 "+sign+" 2 from e x", api.ErrSyntax, 9)
		checkWrong(t, "select 1 from e x where "+sign, api.ErrSyntax, 24)
	}
	for _, sign := range strings.Fields("( ) , . + - * and as 1 x") {
		text := "select 1 from e x where x.a" + " " + sign
		if sign == "+" || sign == "-" || sign == "*" {
			checkWrong(t, text, api.ErrSyntax, len(text))
		} else {
			checkWrong(t, text, api.ErrSyntax, 28)
		}
	}
	checkAllWrong(t, []wrong{
		{"select 1 from e x where 1 =< 2", api.ErrSyntax, 27},
		{"select 1 from e x where 1 >< 2", api.ErrSyntax, 27},
		{"select 1 from e x where 1 == 2", api.ErrSyntax, 27},
		{"select 1 from e x where 1 <<= 2", api.ErrSyntax, 27},
		{"select 1 from e x where 1 <>= 2", api.ErrSyntax, 28},
		{"select 1 from e x where 1 = 2 = 3", api.ErrSyntax, 30},
		{"select 1 from e x where (1 = 2)", api.ErrSyntax, 27},
	})
}
