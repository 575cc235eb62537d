package quarry

import (
	"errors"
	"math/rand"
	"reflect"
	"strings"
	"testing"

	"quarry/api"
	"quarry/query"
)

// checkDrawn holds what Ask says of a query against what is worked out here.
func checkDrawn(t *testing.T, q *Quarry, tables []api.Table, d drawnQuery, r *rand.Rand) (string, error) {
	t.Helper()
	text, err, place := d.text(tables, r)
	if _, err := query.Tell(text); err != nil {
		return "", err // too long, or too deep
	}
	if err != nil {
		checkWrong(t, q, text, err, place)
		return text, err
	}
	want, err := d.answer(tables)
	if err != nil {
		checkWrong(t, q, text, err, -1)
		return text, err
	}
	if a, err := q.Ask(text); err != nil || !sameAnswer(a, want) {
		t.Errorf("tables %s: Ask(%q) = %v, %v, want %v", short(tables), text, a, err, want)
	}
	return text, nil
}

// plain is the error without its place.
func plain(err error) error {
	var at *api.At
	if errors.As(err, &at) {
		return at.Err
	}
	return err
}

// checkTold: told anew it is the same query (P13).
func checkTold(t *testing.T, q *Quarry, text string) {
	t.Helper()
	told, _ := query.Tell(text)
	if len(told) > api.MaxText {
		return
	}
	a, err := q.Ask(text)
	b, again := q.Ask(told)
	if !sameAnswer(a, b) || plain(err) != plain(again) || (err == plain(err)) != (again == plain(again)) {
		t.Errorf("Ask(%q) = %v, %v, but told %q: %v, %v", text, a, err, told, b, again)
	}
}

// checkShuffled: answers do not hang on the order of rows (P13).
func checkShuffled(t *testing.T, q *Quarry, tables []api.Table, text string, r *rand.Rand) {
	t.Helper()
	other := deepCopy(tables)
	for _, table := range other {
		r.Shuffle(len(table.Rows), func(i, j int) { table.Rows[i], table.Rows[j] = table.Rows[j], table.Rows[i] })
	}
	a, err := q.Ask(text)
	b, again := mustNew(t, other...).Ask(text)
	if !sameAnswer(a, b) || plain(err) != plain(again) {
		t.Errorf("tables %s: Ask(%q) = %v, %v, with rows in another order %v, %v", short(tables), text, a, err, b, again)
	}
}

// hangsOnOrder tells whether windows have ties.
func (d drawnQuery) hangsOnOrder(tables []api.Table) bool {
	tables, err := d.tables(tables)
	return err == nil && d.main.hasTies(d.main.chosen(tables, at{}, d.main.sources))
}

// checkDrawnQueries draws queries of one kind, and tells how many there were of each error, and how many with windows that have no ties.
func checkDrawnQueries(t *testing.T, r *rand.Rand, rounds int, with, windows bool) (seen map[error]int, noTies int) {
	t.Helper()
	seen = map[error]int{}
	for range rounds {
		tables := drawTables(r)
		before := deepCopy(tables)
		q := mustNew(t, tables...)
		for range 8 {
			d := drawQuery(r, tables, with, windows, r.Intn(2) == 0)
			text, err := checkDrawn(t, q, tables, d, r)
			seen[err]++
			if text == "" {
				continue
			}
			checkTold(t, q, text)
			if err != nil || !d.hangsOnOrder(tables) {
				checkShuffled(t, q, tables, text, r)
				if err == nil && d.main.hasWindow() {
					noTies++
				}
			}
		}
		if !reflect.DeepEqual(tables, before) {
			t.Fatal("tables that were handed in are others")
		}
	}
	return seen, noTies
}

// checkSeen: of each of these some were drawn.
func checkSeen(t *testing.T, seen map[error]int, errs ...error) {
	t.Helper()
	for _, err := range errs {
		if seen[err] < 10 {
			t.Errorf("only %d queries with %v were drawn", seen[err], err)
		}
	}
}

func TestDrawnQueries(t *testing.T) { // P7, P8, P11, P13
	seen, _ := checkDrawnQueries(t, rand.New(rand.NewSource(1)), 300, false, false)
	checkSeen(t, seen, nil, api.ErrTable, api.ErrColumn, api.ErrTwice, api.ErrMany)
}

func TestDrawnWindows(t *testing.T) { // P9, P13
	seen, sure := checkDrawnQueries(t, rand.New(rand.NewSource(3)), 400, false, true)
	checkSeen(t, seen, nil, api.ErrTable, api.ErrColumn, api.ErrTwice, api.ErrMany)
	if sure < 50 {
		t.Errorf("only %d queries with windows without ties were drawn", sure)
	}
}

func TestDrawnWith(t *testing.T) { // P10, P13
	seen, _ := checkDrawnQueries(t, rand.New(rand.NewSource(4)), 200, true, false)
	checkSeen(t, seen, nil, api.ErrTable, api.ErrColumn, api.ErrTwice, api.ErrMany, api.ErrShape, api.ErrWindow)
	seen, _ = checkDrawnQueries(t, rand.New(rand.NewSource(5)), 100, true, true)
	checkSeen(t, seen, nil, api.ErrTable, api.ErrColumn, api.ErrTwice, api.ErrMany, api.ErrShape, api.ErrWindow)
}

func TestAnyText(t *testing.T) { // P1
	q := mustNew(t, edges(), ones("t", 200))
	r := rand.New(rand.NewSource(2))
	pieces := strings.Fields("and as by count from max min order over partition preceding row_number rows select sum union where with ( ) , . + - * = <> < <= > >= a b e x t y q 1 02 ? 1000000001")
	known := map[string]struct{}{}
	check := func(text string) {
		a, err := q.Ask(text)
		if err != nil && (a.Columns != nil || a.Rows != nil) || err == nil && len(a.Columns) == 0 {
			t.Errorf("Ask(%q) = %v, %v", text, a, err)
		}
		if _, err := query.Tell(text); err == nil {
			known[text] = struct{}{}
		} else if _, other := q.Ask(text); !reflect.DeepEqual(err, other) {
			t.Errorf("Ask(%q): %v, but Tell: %v", text, other, err)
		}
	}
	whole := []string{
		"select x . a , - ( y . b + 1 ) as b from e x , t y where x . a < 1 and x . b >= y . a",
		"with q ( a , b ) as ( select 1 , 02 from e x union select x . a , x . b from q x where 1 <> 02 ) select x . a from q x , e e",
		"select row_number ( ) over ( ) , sum ( x . a ) over ( partition by x . a , 1 order by x . b rows 02 preceding ) as a from e x",
	}
	for range 10000 {
		tokens := strings.Fields(pick(r, whole...))
		for range r.Intn(4) {
			tokens[r.Intn(len(tokens))] = pick(r, pieces...)
		}
		check(strings.Join(tokens[:len(tokens)-r.Intn(3)], pick(r, " ", " ", "\n")))
	}
	for c := range 256 {
		check(string([]byte{byte(c)}))
		check("select 1 from e x" + string([]byte{byte(c)}))
	}
	checkKnown(t, q, len(known))
}

func TestLongExprs(t *testing.T) { // P1: as many parts as a text has room for, over as many rows as can be made
	q := mustNew(t, ones("t", 200), ones("u", 20))
	text := "select " + strings.Repeat("x.a+", 240) + "1 from t x,u y"
	a, err := q.Ask(text)
	if err != nil || len(a.Rows) != 4000 || a.Rows[0][0] != 241 || a.Rows[3999][0] != 241 {
		t.Errorf("Ask of %d bytes: %d rows, %v", len(text), len(a.Rows), err)
	}
	deep := strings.Repeat("(-", 8) + "x.a" + strings.Repeat(")", 8)
	checkRows(t, q, "select "+deep+" from u x where x.a = 1 and "+deep+" = 2", nil)
}
