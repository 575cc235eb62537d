package quarry

import (
	"cmp"
	"fmt"
	"maps"
	"math"
	"math/big"
	"math/rand"
	"slices"
	"sort"
	"strconv"
	"strings"

	"quarry/api"
)

// drawn is a select that was drawn: its tokens, of which Ask knows nothing but
// their text, and what is worked out of them here in another way than there.
type drawn struct {
	sources [][2]string // a table's name, and the one that its rows are spoken by
	items   []drawnItem
	tests   [][3][]string
}

// drawnItem is an expr, or a call over a window.
type drawnItem struct {
	expr      []string // tokens; of a call what it takes
	call      string   // "" for an expr
	partition [][]string
	order     [][]string
	rows      string // "" without
	name      string // "" without
}

// tokens are those ahead of `as`.
func (i drawnItem) tokens() []string {
	if i.call == "" {
		return i.expr
	}
	all := slices.Concat([]string{i.call, "("}, i.expr, []string{")", "over", "("})
	for k, expr := range i.partition {
		all = append(all, [][]string{{"partition", "by"}, {","}}[min(k, 1)]...)
		all = append(all, expr...)
	}
	for k, expr := range i.order {
		all = append(all, [][]string{{"order", "by"}, {","}}[min(k, 1)]...)
		all = append(all, expr...)
	}
	if i.rows != "" {
		all = append(all, "rows", i.rows, "preceding")
	}
	return append(all, ")")
}

// numbers works out the item for each of the rows.
func (i drawnItem) numbers(rows []at) []int {
	if i.call == "" {
		return each(i.expr, rows)
	}
	var of []int
	if len(i.expr) > 0 {
		of = each(i.expr, rows)
	}
	places := i.places(rows)
	var all []int
	for k := range rows {
		all = append(all, i.number(of, places, k))
	}
	return all
}

func each(expr []string, rows []at) []int {
	var all []int
	for _, row := range rows {
		all = append(all, number(expr, row))
	}
	return all
}

// seated is a row's place in its part, and the part by one row of it.
type seated struct{ part, place int }

// places counts for each row those of its part that come ahead of it.
func (i drawnItem) places(rows []at) []seated {
	var parts, orders [][]int
	for _, row := range rows {
		var part, order []int
		for _, expr := range i.partition {
			part = append(part, number(expr, row))
		}
		for _, expr := range i.order {
			order = append(order, number(expr, row))
		}
		parts, orders = append(parts, part), append(orders, order)
	}
	all := make([]seated, len(rows))
	for k := range rows {
		all[k] = seated{-1, 1}
		for l := range rows {
			if !slices.Equal(parts[k], parts[l]) {
				continue
			}
			if all[k].part < 0 {
				all[k].part = l
			}
			if c := slices.Compare(orders[l], orders[k]); c < 0 || c == 0 && l < k {
				all[k].place++
			}
		}
	}
	return all
}

// number goes through all rows and takes those of the frame.
func (i drawnItem) number(of []int, places []seated, k int) int {
	if i.call == "row_number" {
		return places[k].place
	}
	least := 1
	if n, err := strconv.Atoi(i.rows); err == nil {
		least = places[k].place - n
	}
	count, sum, lowest, highest := 0, 0, math.MaxInt64, math.MinInt64
	for l, seat := range places {
		if seat.part == places[k].part && least <= seat.place && seat.place <= places[k].place {
			count++
			if of != nil {
				sum += of[l]
				lowest, highest = min(lowest, of[l]), max(highest, of[l])
			}
		}
	}
	return map[string]int{"count": count, "sum": sum, "min": lowest, "max": highest}[i.call]
}

func (d drawn) hasWindow() bool {
	return slices.ContainsFunc(d.items, func(i drawnItem) bool { return i.call != "" })
}

// hasTies tells whether two rows are alike for one of the windows.
func (d drawn) hasTies(rows []at) bool {
	for _, item := range d.items {
		if item.call == "" {
			continue
		}
		seen := map[string]int{}
		for _, row := range rows {
			var key []int
			for _, expr := range slices.Concat(item.partition, item.order) {
				key = append(key, number(expr, row))
			}
			seen[fmt.Sprint(key)]++
		}
		if len(seen) < len(rows) {
			return true
		}
	}
	return false
}

// drawnWith is what `with` was drawn.
type drawnWith struct {
	name    string
	columns []string
	first   drawn
	second  drawn
}

// drawnQuery is a whole one; with is nil where it has none.
type drawnQuery struct {
	with *drawnWith
	main drawn
}

// at is one row of each source, by the names that they are spoken by.
type at map[string]map[string]int

// work works out the expr that the tokens begin with, by numbers without
// bounds, and gives what is behind it.
func work(tokens []string, row at) (*big.Int, []string) {
	sum, rest := workTerm(tokens, row)
	for len(rest) > 0 && (rest[0] == "+" || rest[0] == "-") {
		sign := rest[0]
		var next *big.Int
		next, rest = workTerm(rest[1:], row)
		if sign == "-" {
			next.Neg(next)
		}
		sum.Add(sum, next)
	}
	return sum, rest
}

func workTerm(tokens []string, row at) (*big.Int, []string) {
	product, rest := workFactor(tokens, row)
	for len(rest) > 0 && rest[0] == "*" {
		var next *big.Int
		next, rest = workFactor(rest[1:], row)
		product.Mul(product, next)
	}
	return product, rest
}

func workFactor(tokens []string, row at) (*big.Int, []string) {
	switch {
	case tokens[0] == "-":
		n, rest := workFactor(tokens[1:], row)
		return n.Neg(n), rest
	case tokens[0] == "(":
		n, rest := work(tokens[1:], row)
		return n, rest[1:]
	case len(tokens) > 2 && tokens[1] == ".":
		return big.NewInt(int64(row[tokens[0]][tokens[2]])), tokens[3:]
	}
	n, ok := new(big.Int).SetString(tokens[0], 10)
	if !ok {
		panic("no number: " + tokens[0])
	}
	return n, tokens[1:]
}

// number is the word of 64 bits that an expr comes to.
func number(tokens []string, row at) int {
	n, rest := work(tokens, row)
	if len(rest) > 0 {
		panic("not gone through: " + strings.Join(rest, " "))
	}
	n.Mod(n, new(big.Int).Lsh(big.NewInt(1), 64))
	return int(int64(n.Uint64()))
}

// holds tells whether a test does.
func holds(test [3][]string, row at) bool {
	signs := map[int]string{-1: "< <= <>", 0: "= <= >=", 1: "> >= <>"}[compare(number(test[0], row), number(test[2], row))]
	return slices.Contains(strings.Fields(signs), test[1][0])
}

func compare(a, b int) int {
	switch {
	case a < b:
		return -1
	case a > b:
		return 1
	}
	return 0
}

func find(tables []api.Table, name string) *api.Table {
	for i := range tables {
		if tables[i].Name == name {
			return &tables[i]
		}
	}
	return nil
}

// chosen goes through all that the sources give.
func (d drawn) chosen(tables []api.Table, row at, sources [][2]string) []at {
	if len(sources) == 0 {
		for _, test := range d.tests {
			if !holds(test, row) {
				return nil
			}
		}
		return []at{maps.Clone(row)}
	}
	var all []at
	table := find(tables, sources[0][0])
	for _, numbers := range table.Rows {
		row[sources[0][1]] = map[string]int{}
		for i, name := range table.Columns {
			row[sources[0][1]][name] = numbers[i]
		}
		all = append(all, d.chosen(tables, row, sources[1:])...)
	}
	return all
}

// rows gives the numbers of the items, unless there are too many.
func (d drawn) rows(tables []api.Table) ([][]int, error) {
	made := 1
	for _, source := range d.sources {
		made *= len(find(tables, source[0]).Rows)
	}
	if made > api.MaxMade {
		return nil, api.ErrMany
	}
	chosen := d.chosen(tables, at{}, d.sources)
	rows := make([][]int, len(chosen))
	for _, item := range d.items {
		for k, n := range item.numbers(chosen) {
			rows[k] = append(rows[k], n)
		}
	}
	return rows, nil
}

// rows adds what the second select gives until there is nothing new.
func (w *drawnWith) rows(tables []api.Table) ([][]int, error) {
	made := api.Table{Name: w.name, Columns: w.columns}
	seen := map[string]int{}
	news, err := w.first.rows(tables)
	for times := 0; err == nil; times++ {
		had := len(seen)
		for _, row := range news {
			key := fmt.Sprint(row)
			if seen[key] == 0 {
				made.Rows = append(made.Rows, row)
			}
			seen[key]++
		}
		if len(made.Rows) > api.MaxRows {
			return nil, api.ErrMany
		}
		if times > 0 && len(seen) == had {
			sortAll(made.Rows)
			return made.Rows, nil
		}
		news, err = w.second.rows(append(slices.Clone(tables), made))
	}
	return nil, err
}

// tables are those that the main select may speak of.
func (d drawnQuery) tables(tables []api.Table) ([]api.Table, error) {
	if d.with == nil {
		return tables, nil
	}
	rows, err := d.with.rows(tables)
	return append(slices.Clone(tables), api.Table{Name: d.with.name, Columns: d.with.columns, Rows: rows}), err
}

func sortAll(rows [][]int) {
	sort.Slice(rows, func(i, j int) bool {
		for k := range rows[i] {
			if rows[i][k] != rows[j][k] {
				return rows[i][k] < rows[j][k]
			}
		}
		return false
	})
}

// layer lays tokens one behind the other.
type layer struct {
	r *rand.Rand
	b strings.Builder
}

// lay tells where each of them stands.
func (l *layer) lay(tokens ...string) []placed {
	var all []placed
	for _, token := range tokens {
		l.b.WriteString(pick(l.r, " ", " ", "  ", "\n", "\t "))
		all = append(all, placed{token, l.b.Len()})
		l.b.WriteString(token)
	}
	return all
}

// laid is where the tokens of a select stand.
type laid struct {
	sources []placed
	others  []placed // of items, and behind them of tests
}

func (d drawn) lay(l *layer) laid {
	var where laid
	l.lay("select")
	for i, item := range d.items {
		if i > 0 {
			l.lay(",")
		}
		where.others = append(where.others, l.lay(item.tokens()...)...)
		if item.name != "" {
			l.lay("as", item.name)
		}
	}
	for i, source := range d.sources {
		l.lay([]string{"from", ","}[min(i, 1)])
		where.sources = append(where.sources, l.lay(source[0], source[1])...)
	}
	for i, test := range d.tests {
		l.lay([]string{"where", "and"}[min(i, 1)])
		where.others = append(where.others, l.lay(slices.Concat(test[0], test[1], test[2])...)...)
	}
	return where
}

// text lays all tokens, and tells the first error of meaning, and its place.
func (d drawnQuery) text(tables []api.Table, r *rand.Rand) (string, error, int) {
	l := &layer{r: r}
	var wrong error
	place := -1
	note := func(err error, at int) {
		if wrong == nil {
			wrong, place = err, at
		}
	}
	if w := d.with; w != nil {
		name := l.lay("with", w.name)[1]
		if find(tables, w.name) != nil {
			note(api.ErrTwice, name.place)
		}
		for i, column := range w.columns {
			at := l.lay([]string{"(", ","}[min(i, 1)], column)[1]
			if slices.Contains(w.columns[:i], column) {
				note(api.ErrTwice, at.place)
			}
		}
		l.lay(")", "as", "(")
		note(w.first.lay(l).wrong(tables, true))
		if at := l.lay("union")[0]; len(w.first.items) != len(w.columns) {
			note(api.ErrShape, at.place)
		}
		tables = append(slices.Clone(tables), api.Table{Name: w.name, Columns: w.columns})
		note(w.second.lay(l).wrong(tables, true))
		if at := l.lay(")")[0]; len(w.second.items) != len(w.columns) {
			note(api.ErrShape, at.place)
		}
	}
	note(d.main.lay(l).wrong(tables, false))
	return l.b.String(), wrong, place
}

type placed struct {
	text  string
	place int
}

// wrong is the first error of meaning, and its place.
func (w laid) wrong(tables []api.Table, inWith bool) (error, int) {
	spoken := map[string]*api.Table{}
	for i := 0; i < len(w.sources); i += 2 {
		table := find(tables, w.sources[i].text)
		if table == nil {
			return api.ErrTable, w.sources[i].place
		}
		if spoken[w.sources[i+1].text] != nil {
			return api.ErrTwice, w.sources[i+1].place
		}
		spoken[w.sources[i+1].text] = table
	}
	for i, token := range w.others {
		if inWith && slices.Contains(calls, token.text) {
			return api.ErrWindow, token.place
		}
		if token.text != "." {
			continue
		}
		table := spoken[w.others[i-1].text]
		if table == nil {
			return api.ErrTable, w.others[i-1].place
		}
		if !slices.Contains(table.Columns, w.others[i+1].text) {
			return api.ErrColumn, w.others[i+1].place
		}
	}
	return nil, -1
}

var calls = []string{"row_number", "count", "sum", "min", "max"}

func pick[T any](r *rand.Rand, all ...T) T { return all[r.Intn(len(all))] }

func drawTables(r *rand.Rand) []api.Table {
	var tables []api.Table
	for _, name := range []string{"t", "u", "v", "x"}[:1+r.Intn(4)] {
		table := api.Table{Name: name, Columns: strings.Fields("a b c x t d")[:1+r.Intn(6)]}
		for range pick(r, 0, 1, 2, 3, 3, 4, 4, 16) {
			row := make([]int, len(table.Columns))
			for i := range row {
				row[i] = pick(r, 0, 1, 2, 3, -1, -2, 5, math.MaxInt64, math.MinInt64, r.Int()-r.Int())
			}
			table.Rows = append(table.Rows, row)
		}
		tables = append(tables, table)
	}
	return tables
}

// drawExpr draws tokens; some names in them mean nothing, if they are to be so.
func drawExpr(r *rand.Rand, tables []api.Table, sources [][2]string, deep int, wrong bool) []string {
	one := func() []string { return drawExpr(r, tables, sources, deep+1, wrong) }
	n := r.Intn(10)
	switch {
	case deep > 3 || n < 5:
		source := pick(r, sources...)
		table := find(tables, source[0])
		if wrong && r.Intn(8) == 0 || table == nil {
			return []string{pick(r, "t", "x", "y", "z", "q"), ".", pick(r, "a", "b", "c", "d", "q")}
		}
		return []string{source[1], ".", pick(r, table.Columns...)}
	case n < 6:
		return []string{pick(r, "0", "1", "2", "7", "007", "1000000000", strconv.Itoa(r.Intn(100)))}
	case n < 7:
		return append([]string{"-"}, drawFactor(r, one())...)
	case n < 8:
		return slices.Concat(drawFactor(r, one()), []string{"*"}, drawFactor(r, one()))
	}
	return slices.Concat(one(), []string{pick(r, "+", "-")}, one())
}

// drawFactor puts brackets around an expr, which it most often needs to be one.
func drawFactor(r *rand.Rand, expr []string) []string {
	if len(expr) == 1 || len(expr) == 3 && expr[1] == "." {
		if r.Intn(4) > 0 {
			return expr
		}
	}
	return slices.Concat([]string{"("}, expr, []string{")"})
}

// drawItem draws an expr, or a window with as much as there is room for.
func drawItem(r *rand.Rand, tables []api.Table, sources [][2]string, windows, wrong bool) drawnItem {
	one := func() []string { return drawExpr(r, tables, sources, 2, wrong) }
	i := drawnItem{name: pick(r, "", "", "n", "_", "x", "a")}
	if !windows || r.Intn(2) == 0 {
		i.expr = drawExpr(r, tables, sources, 0, wrong)
		return i
	}
	i.call = pick(r, calls...)
	if i.call != "row_number" && i.call != "count" {
		i.expr = one()
	}
	for range pick(r, 0, 0, 1, 1, 2) {
		i.partition = append(i.partition, one())
	}
	for range pick(r, 0, 1, 1, 2) {
		i.order = append(i.order, one())
	}
	if r.Intn(2) == 0 {
		i.order = nil
		for _, source := range sources {
			if table := find(tables, source[0]); table != nil {
				i.order = append(i.order, []string{source[1], ".", table.Columns[0]})
			}
		}
	}
	i.rows = pick(r, "", "", "0", "1", "02", "3", "10", "1000000000")
	return i
}

func drawSelect(r *rand.Rand, tables []api.Table, windows, wrong bool) drawn {
	var d drawn
	spoken := []string{"x", "y", "z", "t"}
	r.Shuffle(len(spoken), func(i, j int) { spoken[i], spoken[j] = spoken[j], spoken[i] })
	for i := range 1 + r.Intn(3) {
		source := [2]string{pick(r, tables...).Name, spoken[i]}
		if wrong && r.Intn(12) == 0 {
			source[r.Intn(2)] = pick(r, "q", "x", "y", "t", "r")
		}
		d.sources = append(d.sources, source)
	}
	for range 1 + r.Intn(pick(r, 2, 3, 6)) {
		d.items = append(d.items, drawItem(r, tables, d.sources, windows, wrong))
	}
	for range pick(r, 0, 0, 1, 1, 2, 3) {
		sign := []string{pick(r, "=", "<>", "<", "<=", ">", ">=")}
		d.tests = append(d.tests, [3][]string{drawExpr(r, tables, d.sources, 2, wrong), sign, drawExpr(r, tables, d.sources, 2, wrong)})
	}
	return d
}

// drawHalf draws a select of `with`: most often of plain columns, so that there is an end to its rows.
func drawHalf(r *rand.Rand, tables []api.Table, width int, wrong bool) drawn {
	d := drawSelect(r, tables, wrong && r.Intn(4) == 0, wrong)
	if wrong && r.Intn(4) == 0 {
		return d
	}
	for len(d.items) > width {
		d.items = d.items[1:]
	}
	for len(d.items) < width {
		d.items = append(d.items, drawnItem{expr: drawExpr(r, tables, d.sources, 9, wrong)})
	}
	if r.Intn(4) > 0 {
		for i := range d.items {
			if d.items[i].call == "" {
				d.items[i].expr = drawExpr(r, tables, d.sources, 9, wrong)
			}
		}
	}
	return d
}

func drawWith(r *rand.Rand, tables []api.Table, wrong bool) *drawnWith {
	w := &drawnWith{name: pick(r, "r", "y", "z"), columns: strings.Fields("c a x b e n")[:1+r.Intn(pick(r, 2, 3, 6))]}
	if wrong && r.Intn(8) == 0 {
		w.name = pick(r, tables...).Name
	}
	if wrong && r.Intn(8) == 0 {
		w.columns[r.Intn(len(w.columns))] = w.columns[0]
	}
	w.first = drawHalf(r, tables, len(w.columns), wrong)
	w.second = drawHalf(r, append(slices.Clone(tables), api.Table{Name: w.name, Columns: w.columns}), len(w.columns), wrong)
	if own := &w.second.sources[0]; r.Intn(3) > 0 && own[0] != w.name {
		w.second = w.second.over(own[1], tables, w, r)
	}
	return w
}

// over makes a source one of the table that `with` makes, and its columns with it.
func (d drawn) over(spoken string, tables []api.Table, w *drawnWith, r *rand.Rand) drawn {
	for i := range d.sources {
		if d.sources[i][1] == spoken {
			d.sources[i][0] = w.name
		}
	}
	swap := func(expr []string) {
		for i := range expr {
			if expr[i] == "." && expr[i-1] == spoken && !slices.Contains(w.columns, expr[i+1]) {
				expr[i+1] = pick(r, w.columns...)
			}
		}
	}
	for _, item := range d.items {
		for _, expr := range slices.Concat([][]string{item.expr}, item.partition, item.order) {
			swap(expr)
		}
	}
	for _, test := range d.tests {
		swap(test[0])
		swap(test[2])
	}
	return d
}

func drawQuery(r *rand.Rand, tables []api.Table, with, windows, wrong bool) drawnQuery {
	var d drawnQuery
	if with {
		d.with = drawWith(r, tables, wrong)
		tables = append(slices.Clone(tables), api.Table{Name: d.with.name, Columns: d.with.columns})
	}
	d.main = drawSelect(r, tables, windows, wrong)
	return d
}

// answer is what Ask must say.
func (d drawnQuery) answer(tables []api.Table) (api.Answer, error) {
	var a api.Answer
	tables, err := d.tables(tables)
	if err != nil {
		return a, err
	}
	rows, err := d.main.rows(tables)
	if err != nil {
		return a, err
	}
	for _, item := range d.main.items {
		a.Columns = append(a.Columns, cmp.Or(item.name, "_"))
	}
	sortAll(rows)
	a.Rows = rows
	return a, nil
}

func sameAnswer(a, b api.Answer) bool {
	return slices.Equal(a.Columns, b.Columns) && sameRows(a.Rows, b.Rows)
}
