package quarry

import (
	"errors"
	"math"
	"math/big"
	"math/rand"
	"reflect"
	"slices"
	"sort"
	"strconv"
	"strings"
	"testing"

	"quarry/api"
	"quarry/query"
)

// drawn is a query that was drawn: its tokens, of which Ask knows nothing but
// their text, and what is worked out of them here in another way than there.
type drawn struct {
	sources [][2]string // a table's name, and the one that its rows are spoken by
	items   [][]string  // tokens of an expr
	names   []string    // of items; "" without one
	tests   [][3][]string
}

// at is one row of each source, by the names that they are spoken by.
type at map[string]map[string]int

// work works out the expr that the tokens begin with, by numbers without
// bounds, and gives what is behind it.
func work(tokens []string, row at) (*big.Int, []string) {
	sum, rest := workTerm(tokens, row)
	for len(rest) > 0 && (rest[0] == "+" || rest[0] == "-") {
		sign := rest[0]
		var next *big.Int
		next, rest = workTerm(rest[1:], row)
		if sign == "-" {
			next.Neg(next)
		}
		sum.Add(sum, next)
	}
	return sum, rest
}

func workTerm(tokens []string, row at) (*big.Int, []string) {
	product, rest := workFactor(tokens, row)
	for len(rest) > 0 && rest[0] == "*" {
		var next *big.Int
		next, rest = workFactor(rest[1:], row)
		product.Mul(product, next)
	}
	return product, rest
}

func workFactor(tokens []string, row at) (*big.Int, []string) {
	switch {
	case tokens[0] == "-":
		n, rest := workFactor(tokens[1:], row)
		return n.Neg(n), rest
	case tokens[0] == "(":
		n, rest := work(tokens[1:], row)
		return n, rest[1:]
	case len(tokens) > 2 && tokens[1] == ".":
		return big.NewInt(int64(row[tokens[0]][tokens[2]])), tokens[3:]
	}
	n, ok := new(big.Int).SetString(tokens[0], 10)
	if !ok {
		panic("no number: " + tokens[0])
	}
	return n, tokens[1:]
}

// number is the word of 64 bits that an expr comes to.
func number(tokens []string, row at) int {
	n, rest := work(tokens, row)
	if len(rest) > 0 {
		panic("not gone through: " + strings.Join(rest, " "))
	}
	n.Mod(n, new(big.Int).Lsh(big.NewInt(1), 64))
	return int(int64(n.Uint64()))
}

// holds tells whether a test does.
func holds(test [3][]string, row at) bool {
	signs := map[int]string{-1: "< <= <>", 0: "= <= >=", 1: "> >= <>"}[compare(number(test[0], row), number(test[2], row))]
	return slices.Contains(strings.Fields(signs), test[1][0])
}

func compare(a, b int) int {
	switch {
	case a < b:
		return -1
	case a > b:
		return 1
	}
	return 0
}

func find(tables []api.Table, name string) *api.Table {
	for i := range tables {
		if tables[i].Name == name {
			return &tables[i]
		}
	}
	return nil
}

// rows goes through all that the sources give.
func (d drawn) rows(tables []api.Table, row at, sources [][2]string) [][]int {
	if len(sources) == 0 {
		for _, test := range d.tests {
			if !holds(test, row) {
				return nil
			}
		}
		var numbers []int
		for _, item := range d.items {
			numbers = append(numbers, number(item, row))
		}
		return [][]int{numbers}
	}
	var all [][]int
	table := find(tables, sources[0][0])
	for _, numbers := range table.Rows {
		row[sources[0][1]] = map[string]int{}
		for i, name := range table.Columns {
			row[sources[0][1]][name] = numbers[i]
		}
		all = append(all, d.rows(tables, row, sources[1:])...)
	}
	return all
}

// text lays the tokens one behind the other, and keeps where each one of the
// sources, of the items and of the tests stands.
func (d drawn) text(r *rand.Rand) (text string, sources, items, tests []placed) {
	var b strings.Builder
	lay := func(to *[]placed, tokens ...string) {
		for _, token := range tokens {
			b.WriteString([]string{" ", " ", "  ", "\n", "\t "}[r.Intn(5)])
			if to != nil {
				*to = append(*to, placed{token, b.Len()})
			}
			b.WriteString(token)
		}
	}
	lay(nil, "select")
	for i, item := range d.items {
		if i > 0 {
			lay(nil, ",")
		}
		lay(&items, item...)
		items = append(items, placed{})
		if d.names[i] != "" {
			lay(nil, "as", d.names[i])
		}
	}
	for i, source := range d.sources {
		lay(nil, []string{"from", ","}[min(i, 1)])
		lay(&sources, source[0], source[1])
	}
	for i, test := range d.tests {
		lay(nil, []string{"where", "and"}[min(i, 1)])
		lay(&tests, slices.Concat(test[0], test[1], test[2])...)
		tests = append(tests, placed{})
	}
	return b.String(), sources, items, tests
}

type placed struct {
	text  string
	place int
}

// wrong is the first error of meaning, and its place.
func (d drawn) wrong(tables []api.Table, sources, items, tests []placed) (error, int) {
	spoken := map[string]*api.Table{}
	for i := 0; i < len(sources); i += 2 {
		table := find(tables, sources[i].text)
		if table == nil {
			return api.ErrTable, sources[i].place
		}
		if spoken[sources[i+1].text] != nil {
			return api.ErrTwice, sources[i+1].place
		}
		spoken[sources[i+1].text] = table
	}
	tokens := append(items, tests...)
	for i, dot := range tokens {
		if dot.text != "." {
			continue
		}
		table := spoken[tokens[i-1].text]
		if table == nil {
			return api.ErrTable, tokens[i-1].place
		}
		if !slices.Contains(table.Columns, tokens[i+1].text) {
			return api.ErrColumn, tokens[i+1].place
		}
	}
	return nil, -1
}

func pick[T any](r *rand.Rand, all ...T) T { return all[r.Intn(len(all))] }

func drawTables(r *rand.Rand) []api.Table {
	var tables []api.Table
	for _, name := range []string{"t", "u", "v", "x"}[:1+r.Intn(4)] {
		table := api.Table{Name: name, Columns: strings.Fields("a b c x t d")[:1+r.Intn(6)]}
		for range pick(r, 0, 1, 2, 3, 3, 4, 4, 16) {
			row := make([]int, len(table.Columns))
			for i := range row {
				row[i] = pick(r, 0, 1, 2, 3, -1, -2, 5, math.MaxInt64, math.MinInt64, r.Int()-r.Int())
			}
			table.Rows = append(table.Rows, row)
		}
		tables = append(tables, table)
	}
	return tables
}

// drawExpr draws tokens; some names in them mean nothing, if they are to be so.
func drawExpr(r *rand.Rand, tables []api.Table, sources [][2]string, deep int, wrong bool) []string {
	one := func() []string { return drawExpr(r, tables, sources, deep+1, wrong) }
	n := r.Intn(10)
	switch {
	case deep > 3 || n < 5:
		source := pick(r, sources...)
		table := find(tables, source[0])
		if wrong && r.Intn(8) == 0 || table == nil {
			return []string{pick(r, "t", "x", "y", "z", "q"), ".", pick(r, "a", "b", "c", "d", "q")}
		}
		return []string{source[1], ".", pick(r, table.Columns...)}
	case n < 6:
		return []string{pick(r, "0", "1", "2", "7", "007", "1000000000", strconv.Itoa(r.Intn(100)))}
	case n < 7:
		return append([]string{"-"}, drawFactor(r, one())...)
	case n < 8:
		return slices.Concat(drawFactor(r, one()), []string{"*"}, drawFactor(r, one()))
	}
	return slices.Concat(one(), []string{pick(r, "+", "-")}, one())
}

// drawFactor puts brackets around an expr, which it most often needs to be one.
func drawFactor(r *rand.Rand, expr []string) []string {
	if len(expr) == 1 || len(expr) == 3 && expr[1] == "." {
		if r.Intn(4) > 0 {
			return expr
		}
	}
	return slices.Concat([]string{"("}, expr, []string{")"})
}

func drawQuery(r *rand.Rand, tables []api.Table, wrong bool) drawn {
	var d drawn
	spoken := []string{"x", "y", "z", "t"}
	r.Shuffle(len(spoken), func(i, j int) { spoken[i], spoken[j] = spoken[j], spoken[i] })
	for i := range 1 + r.Intn(3) {
		source := [2]string{pick(r, tables...).Name, spoken[i]}
		if wrong && r.Intn(12) == 0 {
			source[r.Intn(2)] = pick(r, "q", "x", "y", "t")
		}
		d.sources = append(d.sources, source)
	}
	for range 1 + r.Intn(pick(r, 2, 3, 6)) {
		d.items = append(d.items, drawExpr(r, tables, d.sources, 0, wrong))
		d.names = append(d.names, pick(r, "", "", "n", "_", "x", "a"))
	}
	for range pick(r, 0, 0, 1, 1, 2, 3) {
		sign := []string{pick(r, "=", "<>", "<", "<=", ">", ">=")}
		d.tests = append(d.tests, [3][]string{drawExpr(r, tables, d.sources, 2, wrong), sign, drawExpr(r, tables, d.sources, 2, wrong)})
	}
	return d
}

// answer is what Ask must say.
func (d drawn) answer(tables []api.Table) api.Answer {
	var a api.Answer
	for _, name := range d.names {
		if name == "" {
			name = "_"
		}
		a.Columns = append(a.Columns, name)
	}
	a.Rows = d.rows(tables, at{}, d.sources)
	sort.Slice(a.Rows, func(i, j int) bool {
		for k := range a.Rows[i] {
			if a.Rows[i][k] != a.Rows[j][k] {
				return a.Rows[i][k] < a.Rows[j][k]
			}
		}
		return false
	})
	return a
}

func sameAnswer(a, b api.Answer) bool {
	return slices.Equal(a.Columns, b.Columns) && sameRows(a.Rows, b.Rows)
}

// checkDrawn holds what Ask says of a query against what is worked out here.
func checkDrawn(t *testing.T, q *Quarry, tables []api.Table, d drawn, r *rand.Rand) (string, error) {
	t.Helper()
	text, sources, items, tests := d.text(r)
	if _, err := query.Tell(text); err != nil {
		return "", err // too long, or too deep
	}
	if err, place := d.wrong(tables, sources, items, tests); err != nil {
		checkWrong(t, q, text, err, place)
		return text, err
	}
	made := 1
	for _, source := range d.sources {
		made *= len(find(tables, source[0]).Rows)
	}
	if made > api.MaxMade {
		checkWrong(t, q, text, api.ErrMany, -1)
		return text, api.ErrMany
	}
	a, err := q.Ask(text)
	if want := d.answer(tables); err != nil || !sameAnswer(a, want) {
		t.Errorf("tables %s: Ask(%q) = %v, %v, want %v", short(tables), text, a, err, want)
	}
	return text, nil
}

// plain is the error without its place.
func plain(err error) error {
	var at *api.At
	if errors.As(err, &at) {
		return at.Err
	}
	return err
}

// checkTold: told anew it is the same query (P13).
func checkTold(t *testing.T, q *Quarry, text string) {
	t.Helper()
	told, _ := query.Tell(text)
	if len(told) > api.MaxText {
		return
	}
	a, err := q.Ask(text)
	b, again := q.Ask(told)
	if !sameAnswer(a, b) || plain(err) != plain(again) || (err == plain(err)) != (again == plain(again)) {
		t.Errorf("Ask(%q) = %v, %v, but told %q: %v, %v", text, a, err, told, b, again)
	}
}

// checkShuffled: answers do not hang on the order of rows (P13).
func checkShuffled(t *testing.T, q *Quarry, tables []api.Table, text string, r *rand.Rand) {
	t.Helper()
	other := deepCopy(tables)
	for _, table := range other {
		r.Shuffle(len(table.Rows), func(i, j int) { table.Rows[i], table.Rows[j] = table.Rows[j], table.Rows[i] })
	}
	a, err := q.Ask(text)
	b, again := mustNew(t, other...).Ask(text)
	if !sameAnswer(a, b) || plain(err) != plain(again) {
		t.Errorf("tables %s: Ask(%q) = %v, %v, with rows in another order %v, %v", short(tables), text, a, err, b, again)
	}
}

func TestDrawnQueries(t *testing.T) { // P7, P8, P11, P13
	r := rand.New(rand.NewSource(1))
	seen := map[error]int{}
	for range 300 {
		tables := drawTables(r)
		before := deepCopy(tables)
		q := mustNew(t, tables...)
		for range 8 {
			text, err := checkDrawn(t, q, tables, drawQuery(r, tables, r.Intn(2) == 0), r)
			seen[err]++
			if text != "" {
				checkTold(t, q, text)
				checkShuffled(t, q, tables, text, r)
			}
		}
		if !reflect.DeepEqual(tables, before) {
			t.Fatal("tables that were handed in are others")
		}
	}
	for _, err := range []error{nil, api.ErrTable, api.ErrColumn, api.ErrTwice, api.ErrMany} {
		if seen[err] < 10 {
			t.Errorf("only %d queries with %v were drawn", seen[err], err)
		}
	}
}

func TestAnyText(t *testing.T) { // P1
	q := mustNew(t, edges(), ones("t", 200))
	r := rand.New(rand.NewSource(2))
	pieces := strings.Fields("and as by count from max min order over partition preceding row_number rows select sum union where with ( ) , . + - * = <> < <= > >= a b e x t y q 1 02 ? 1000000001")
	known := map[string]struct{}{}
	check := func(text string) {
		a, err := q.Ask(text)
		if err != nil && (a.Columns != nil || a.Rows != nil) || err == nil && len(a.Columns) == 0 {
			t.Errorf("Ask(%q) = %v, %v", text, a, err)
		}
		if _, err := query.Tell(text); err == nil {
			known[text] = struct{}{}
		} else if _, other := q.Ask(text); !reflect.DeepEqual(err, other) {
			t.Errorf("Ask(%q): %v, but Tell: %v", text, other, err)
		}
	}
	whole := []string{
		"select x . a , - ( y . b + 1 ) as b from e x , t y where x . a < 1 and x . b >= y . a",
		"with q ( a , b ) as ( select 1 , 02 from e x union select x . a , x . b from q x where 1 <> 02 ) select x . a from q x , e e",
		"select row_number ( ) over ( ) , sum ( x . a ) over ( partition by x . a , 1 order by x . b rows 02 preceding ) as a from e x",
	}
	for range 10000 {
		tokens := strings.Fields(pick(r, whole...))
		for range r.Intn(4) {
			tokens[r.Intn(len(tokens))] = pick(r, pieces...)
		}
		check(strings.Join(tokens[:len(tokens)-r.Intn(3)], pick(r, " ", " ", "\n")))
	}
	for c := range 256 {
		check(string([]byte{byte(c)}))
		check("select 1 from e x" + string([]byte{byte(c)}))
	}
	checkKnown(t, q, len(known))
}

func TestLongExprs(t *testing.T) { // P1: as many parts as a text has room for, over as many rows as can be made
	q := mustNew(t, ones("t", 200), ones("u", 20))
	text := "select " + strings.Repeat("x.a+", 240) + "1 from t x,u y"
	a, err := q.Ask(text)
	if err != nil || len(a.Rows) != 4000 || a.Rows[0][0] != 241 || a.Rows[3999][0] != 241 {
		t.Errorf("Ask of %d bytes: %d rows, %v", len(text), len(a.Rows), err)
	}
	deep := strings.Repeat("(-", 8) + "x.a" + strings.Repeat(")", 8)
	checkRows(t, q, "select "+deep+" from u x where x.a = 1 and "+deep+" = 2", nil)
}
