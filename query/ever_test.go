package query

import (
	"errors"
	"math/rand"
	"slices"
	"strings"
	"testing"

	"quarry/api"
)

// forms: the grammar of P4 as the document has it, which the tests here go
// through with all ways tried at once, unlike the program.
var forms = map[string]string{
	"query":   "[ with NAME LEFT NAME { , NAME } RIGHT as LEFT select_ union select_ RIGHT ] select_",
	"select_": "select item { , item } from NAME NAME { , NAME NAME } [ where test { and test } ]",
	"item":    "what [ as NAME ]",
	"what":    "expr | call over LEFT [ partition by expr { , expr } ] [ order by expr { , expr } ] [ rows NUMBER preceding ] RIGHT",
	"call":    "row_number LEFT RIGHT | count LEFT RIGHT | sum LEFT expr RIGHT | min LEFT expr RIGHT | max LEFT expr RIGHT",
	"test":    "expr = expr | expr <> expr | expr < expr | expr <= expr | expr > expr | expr >= expr",
	"expr":    "term { PLUS term }",
	"term":    "factor { * factor }",
	"factor":  "NUMBER | - factor | NAME . NAME | LEFT expr RIGHT",
}

// trial goes through tokens by the forms and keeps how far it came.
type trial struct {
	tokens   []string
	farthest int
}

func matches(form, token string) bool {
	switch form {
	case "NAME":
		return slices.Contains([]string{"a", "b", "e", "x"}, token)
	case "NUMBER":
		return slices.Contains([]string{"1", "02"}, token)
	case "PLUS":
		return token == "+" || token == "-"
	case "LEFT":
		return token == "("
	case "RIGHT":
		return token == ")"
	}
	return token == form
}

// one gives all places where a form, begun at one of these, may end.
func (r *trial) one(form string, from []int) []int {
	if _, ok := forms[form]; ok {
		return r.either(strings.Split(forms[form], " | "), from)
	}
	var ends []int
	for _, at := range from {
		r.farthest = max(r.farthest, at)
		if at < len(r.tokens) && matches(form, r.tokens[at]) {
			ends = append(ends, at+1)
		}
	}
	return ends
}

func (r *trial) either(ways []string, from []int) []int {
	var ends []int
	if len(from) == 0 {
		return nil
	}
	for _, way := range ways {
		ends = append(ends, r.all(strings.Fields(way), from)...)
	}
	slices.Sort(ends)
	return slices.Compact(ends)
}

// all gives the places where a row of forms may end, with what [ ] and { } mean.
func (r *trial) all(row []string, from []int) []int {
	for len(row) > 0 && len(from) > 0 {
		if row[0] != "[" && row[0] != "{" {
			from, row = r.one(row[0], from), row[1:]
			continue
		}
		end := closing(row)
		inner := row[1:end]
		ends := r.all(inner, from)
		for row[0] == "{" && len(ends) > 0 && !contains(from, ends) {
			from = union(from, ends)
			ends = r.all(inner, ends)
		}
		from, row = union(from, ends), row[end+1:]
	}
	return from
}

// closing is the place of the bracket that ends the one that the row begins with.
func closing(row []string) int {
	deep := 0
	for i, form := range row {
		switch form {
		case "[", "{":
			deep++
		case "]", "}":
			deep--
			if deep == 0 {
				return i
			}
		}
	}
	panic("no bracket ends it")
}

func contains(all, some []int) bool {
	return !slices.ContainsFunc(some, func(n int) bool { return !slices.Contains(all, n) })
}

func union(a, b []int) []int {
	all := slices.Concat(a, b)
	slices.Sort(all)
	return slices.Compact(all)
}

// expected says what Tell must answer of tokens with a blank between each two.
func expected(tokens []string) (told string, place int) {
	r := &trial{tokens: tokens}
	ends := r.one("query", []int{0})
	if slices.Contains(ends, len(tokens)) {
		return toldTokens(tokens), 0
	}
	for _, token := range tokens[:r.farthest] {
		place += len(token) + 1
	}
	if r.farthest == len(tokens) && place > 0 {
		place-- // behind the last token is no blank
	}
	return "", place
}

// toldTokens is P5, read off the tokens alone.
func toldTokens(tokens []string) string {
	told := tokens[0]
	for i := 1; i < len(tokens); i++ {
		last, next := tokens[i-1], tokens[i]
		minus := last == "-" && !(matches("NAME", tokens[i-2]) || matches("NUMBER", tokens[i-2]) || tokens[i-2] == ")")
		call := next == "(" && slices.Contains([]string{"row_number", "count", "sum", "min", "max"}, last)
		if !minus && !call && last != "(" && last != "." && next != ")" && next != "," && next != "." {
			told += " "
		}
		told += next
	}
	return told
}

// checkTokens holds what Tell says of tokens against the forms.
func checkTokens(t *testing.T, tokens []string) {
	t.Helper()
	text := strings.Join(tokens, " ")
	if _, err := Tell(text); errors.Is(err, api.ErrMany) {
		return // the forms do not count
	}
	told, place := expected(tokens)
	if told == "" {
		checkWrong(t, text, api.ErrSyntax, place)
	} else {
		checkTold(t, text, told)
	}
}

// whole: queries that the drawn ones start from.
var whole = []string{
	"select 1 from e x",
	"select - x . a as b , ( 1 - 02 ) * - - x . b from e x , e a where x . a < 1 and a . b >= - 1",
	"with a ( a , b ) as ( select 1 , 02 from e x union select x . a , x . b from a x where 1 <> 02 ) select x . a from a x , e e",
	"select row_number ( ) over ( ) , sum ( x . a ) over ( partition by x . a , 1 order by x . b rows 02 preceding ) as a from e x",
	"select max ( - ( 1 ) ) over ( order by x . a , ( 02 ) ) , count ( ) over ( rows 1 preceding ) as x , min ( 1 ) over ( partition by 1 ) from e x where ( 1 ) = 02 and 1 > 1 and 1 <= 1",
}

const vocabulary = "and as by count from max min order over partition preceding row_number rows select sum union where with ( ) , . + - * = <> < <= > >= a b e x 1 02"

func TestEveryBeginning(t *testing.T) { // P4: what may follow, and what may not, behind every token
	for _, text := range whole {
		tokens := strings.Fields(text)
		checkTokens(t, tokens)
		for n := range len(tokens) + 1 {
			checkTokens(t, tokens[:n])
			for _, next := range strings.Fields(vocabulary) {
				checkTokens(t, append(tokens[:n:n], next))
			}
		}
	}
}

func TestDrawnChanges(t *testing.T) { // P4, P5
	r := rand.New(rand.NewSource(1))
	vocabulary := strings.Fields(vocabulary)
	for range 20000 {
		tokens := strings.Fields(whole[r.Intn(len(whole))])
		for range 1 + r.Intn(3) {
			at := r.Intn(len(tokens))
			switch r.Intn(3) {
			case 0:
				tokens = slices.Delete(tokens, at, at+1)
			case 1:
				tokens = slices.Insert(tokens, at, vocabulary[r.Intn(len(vocabulary))])
			default:
				tokens[at] = vocabulary[r.Intn(len(vocabulary))]
			}
		}
		checkTokens(t, tokens)
	}
}

// checkAny: whatever the text, Tell ends and its two answers fit together.
func checkAny(t *testing.T, text string) {
	t.Helper()
	told, err := Tell(text)
	var at *api.At
	switch {
	case err == nil:
		if told == "" {
			t.Errorf("Tell(%q) tells nothing", text)
		}
	case told != "":
		t.Errorf("Tell(%q) tells %q beside an error", text, told)
	case !errors.As(err, &at):
		if len(text) <= api.MaxText || err != api.ErrLong {
			t.Errorf("Tell(%q): %v without a place", text, err)
		}
	case at.Place < 0 || at.Place > len(text):
		t.Errorf("Tell(%q): an error at %d", text, at.Place)
	}
}

func TestAnyText(t *testing.T) { // P1
	for a := range 256 {
		for b := range 256 {
			checkAny(t, string([]byte{byte(a), byte(b)}))
		}
	}
	r := rand.New(rand.NewSource(2))
	pieces := append(strings.Fields(vocabulary), "?", "\xff", "\x00", "1000000001", "abcdefghi", "\n", "((((", "----", "1,1,1,")
	for range 20000 {
		text := ""
		for range r.Intn(30) {
			text += pieces[r.Intn(len(pieces))] + []string{"", " "}[r.Intn(2)]
		}
		checkAny(t, text)
		checkAny(t, "select "+text)
	}
}

func TestToldAgain(t *testing.T) { // P13
	sum := strings.Repeat("1+", 480)
	text := "select " + sum + "1 from e x"
	told, err := Tell(text)
	if err != nil || len(text) > api.MaxText || len(told) <= api.MaxText {
		t.Fatalf("Tell of %d bytes tells %d, %v", len(text), len(told), err)
	}
	if want := "select " + strings.ReplaceAll(sum, "+", " + ") + "1 from e x"; told != want {
		t.Errorf("Tell(%q) = %q", text, told)
	}
	if again, err := Tell(told); again != "" || err != api.ErrLong {
		t.Errorf("told again: %q, %v", again, err)
	}
}
