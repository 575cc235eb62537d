package query

import (
	"strings"
	"testing"

	"quarry/api"
)

const behindFirst = " from e x" // makes a whole query of an item

func TestQueries(t *testing.T) { // P4, P5
	checkSame(t, "select 1 from e x")
	checkSame(t, "select x.a + x.b * 2 as s from e x where x.a < x.b")
	checkTold(t, "with r(a, b) as (select x.a, x.b from e x union select r.a, x.b from r r, e x where r.b = x.a) select r.b from r r where r.a = 1",
		"with r (a, b) as (select x.a, x.b from e x union select r.a, x.b from r r, e x where r.b = x.a) select r.b from r r where r.a = 1")
	checkTold(t, "with r(a)as(select 1 from e x where 1=1 union select 2 from r y where 2=2)select 3 from r z where 3=3",
		"with r (a) as (select 1 from e x where 1 = 1 union select 2 from r y where 2 = 2) select 3 from r z where 3 = 3")
	checkAllWrong(t, []wrong{
		{"", api.ErrSyntax, 0},
		{"\n\t ", api.ErrSyntax, 3},
		{"x", api.ErrSyntax, 0},
		{"1", api.ErrSyntax, 0},
		{"from", api.ErrSyntax, 0},
		{"(select 1 from e x)", api.ErrSyntax, 0},
		{"select 1 from e x select 1 from e x", api.ErrSyntax, 18},
		{"select 1 from e x union select 1 from e x", api.ErrSyntax, 18},
		{"select 1 from e x)", api.ErrSyntax, 17},
		{"select 1 from e x where 1 = 1 where 1 = 1", api.ErrSyntax, 30},
		{"select 1 from e x where 1 = 1, 2 = 2", api.ErrSyntax, 29},
		{"select 1 from e x with", api.ErrSyntax, 18},
	})
}

func TestWith(t *testing.T) { // P4
	first := "with r(a) as (select 1 from e x"
	checkAllWrong(t, []wrong{
		{"with", api.ErrSyntax, 4},
		{"with 1", api.ErrSyntax, 5},
		{"with r", api.ErrSyntax, 6},
		{"with r a", api.ErrSyntax, 7},
		{"with r as (select 1 from e x", api.ErrSyntax, 7},
		{"with r()", api.ErrSyntax, 7},
		{"with r(1)", api.ErrSyntax, 7},
		{"with r(a", api.ErrSyntax, 8},
		{"with r(a b)", api.ErrSyntax, 9},
		{"with r(a,)", api.ErrSyntax, 9},
		{"with r(a) select", api.ErrSyntax, 10},
		{"with r(a) as select", api.ErrSyntax, 13},
		{"with r(a) as (", api.ErrSyntax, 14},
		{"with r(a) as ()", api.ErrSyntax, 14},
		{first, api.ErrSyntax, 31},
		{first + ") select", api.ErrSyntax, 31},
		{first + " union", api.ErrSyntax, 37},
		{first + " union with", api.ErrSyntax, 38},
		{first + " union select 2 from e x", api.ErrSyntax, 55},
		{first + " union select 2 from e x union", api.ErrSyntax, 56},
		{first + " union select 2 from e x)", api.ErrSyntax, 56},
		{first + " union select 2 from e x) with", api.ErrSyntax, 57},
		{first + " union select 2 from e x), s(a)", api.ErrSyntax, 56},
		{first + " union select 2 from e x) select 3 from e x)", api.ErrSyntax, 74},
	})
}

func TestSelects(t *testing.T) { // P4
	checkSame(t, "select 1, 2 as b, x.a as a, 3 from e x, f y, g z where 1 = 2 and 3 < 4 and 5 >= 6")
	checkAllWrong(t, []wrong{
		{"select", api.ErrSyntax, 6},
		{"select ", api.ErrSyntax, 7},
		{"select *", api.ErrSyntax, 7},
		{"select ,", api.ErrSyntax, 7},
		{"select 1", api.ErrSyntax, 8},
		{"select 1,", api.ErrSyntax, 9},
		{"select 1, from e x", api.ErrSyntax, 10},
		{"select 1 a from e x", api.ErrSyntax, 9},
		{"select 1 as", api.ErrSyntax, 11},
		{"select 1 as from e x", api.ErrSyntax, 12},
		{"select 1 as a b from e x", api.ErrSyntax, 14},
		{"select 1 where 1 = 1", api.ErrSyntax, 9},
		{"select 1 from", api.ErrSyntax, 13},
		{"select 1 from 1", api.ErrSyntax, 14},
		{"select 1 from e", api.ErrSyntax, 15},
		{"select 1 from e, f y", api.ErrSyntax, 15},
		{"select 1 from e as x", api.ErrSyntax, 16},
		{"select 1 from e.x", api.ErrSyntax, 15},
		{"select 1 from e x,", api.ErrSyntax, 18},
		{"select 1 from e x, where", api.ErrSyntax, 19},
		{"select 1 from e x and 1 = 1", api.ErrSyntax, 18},
		{"select 1 from e x where", api.ErrSyntax, 23},
		{"select 1 from e x where 1", api.ErrSyntax, 25},
		{"select 1 from e x where 1 =", api.ErrSyntax, 27},
		{"select 1 from e x where 1 = 1 and", api.ErrSyntax, 33},
		{"select 1 from e x where count() over () = 1", api.ErrSyntax, 24},
	})
}

func TestCalls(t *testing.T) { // P4, P5
	for _, call := range []string{"row_number", "count"} {
		checkTold(t, "select "+call+" ( ) over ( )"+behindFirst, "select "+call+"() over () from e x")
		checkWrong(t, "select "+call+"(1) over ()", api.ErrSyntax, 8+len(call))
	}
	for _, call := range []string{"sum", "min", "max"} {
		checkTold(t, "select "+call+" ( ( 1 )+-x . a ) over ( ) as s"+behindFirst, "select "+call+"((1) + -x.a) over () as s from e x")
		checkAllWrong(t, []wrong{
			{"select " + call + "() over ()", api.ErrSyntax, 11},
			{"select " + call + "(1, 2) over ()", api.ErrSyntax, 12},
			{"select " + call + "(count() over ()) over ()", api.ErrSyntax, 11},
			{"select " + call + "(*) over ()", api.ErrSyntax, 11},
		})
	}
	checkAllWrong(t, []wrong{
		{"select count", api.ErrSyntax, 12},
		{"select count over ()", api.ErrSyntax, 13},
		{"select count(", api.ErrSyntax, 13},
		{"select count()", api.ErrSyntax, 14},
		{"select count() from e x", api.ErrSyntax, 15},
		{"select count() as s", api.ErrSyntax, 15},
		{"select count() over", api.ErrSyntax, 19},
		{"select count() over x", api.ErrSyntax, 20},
		{"select count() over () + 1 from e x", api.ErrSyntax, 23},
		{"select -count() over () from e x", api.ErrSyntax, 8},
		{"select (count() over ()) from e x", api.ErrSyntax, 8},
		{"select avg(1) over () from e x", api.ErrSyntax, 10},
	})
}

func TestWindows(t *testing.T) { // P4, P5
	for _, partition := range []string{"", "partition by 1 ", "partition by x.a, -2, (3) * 4 "} {
		for _, order := range []string{"", "order by 1 ", "order by -x.a + 1, x.b, 5 "} {
			for _, rows := range []string{"", "rows 0 preceding ", "rows 1000000000 preceding "} {
				window := strings.TrimSpace(partition + order + rows)
				checkSame(t, "select count() over ("+window+") from e x")
				checkSame(t, "select 1, min(x.a) over ("+window+") as m, 2 from e x")
			}
		}
	}
	many := strings.Repeat("1,", 100) + "1"
	told := strings.Repeat("1, ", 100) + "1"
	checkTold(t, "select count()over(partition by "+many+" order by "+many+")"+behindFirst, "select count() over (partition by "+told+" order by "+told+") from e x")
	checkAllWrong(t, []wrong{
		{"select count() over (", api.ErrSyntax, 21},
		{"select count() over (1)", api.ErrSyntax, 21},
		{"select count() over (partition 1)", api.ErrSyntax, 31},
		{"select count() over (partition by)", api.ErrSyntax, 33},
		{"select count() over (partition by 1,)", api.ErrSyntax, 36},
		{"select count() over (partition by 1 partition by 1)", api.ErrSyntax, 36},
		{"select count() over (order)", api.ErrSyntax, 26},
		{"select count() over (order by)", api.ErrSyntax, 29},
		{"select count() over (order by 1 partition by 1)", api.ErrSyntax, 32},
		{"select count() over (order by 1 order by 1)", api.ErrSyntax, 32},
		{"select count() over (by 1)", api.ErrSyntax, 21},
		{"select count() over (rows)", api.ErrSyntax, 25},
		{"select count() over (rows -1 preceding)", api.ErrSyntax, 26},
		{"select count() over (rows (1) preceding)", api.ErrSyntax, 26},
		{"select count() over (rows 1)", api.ErrSyntax, 27},
		{"select count() over (rows 1 + 1 preceding)", api.ErrSyntax, 28},
		{"select count() over (rows 1 preceding order by 1)", api.ErrSyntax, 38},
		{"select count() over (preceding)", api.ErrSyntax, 21},
	})
}

func TestExprs(t *testing.T) { // P4, P5
	for _, c := range []struct{ text, told string }{
		{"1+2-3", "1 + 2 - 3"},
		{"1*2*3", "1 * 2 * 3"},
		{"1+2*3-4", "1 + 2 * 3 - 4"},
		{"(1+2)*3", "(1 + 2) * 3"},
		{"1*(2-(3))", "1 * (2 - (3))"},
		{"- 1", "-1"},
		{"- - - 1", "---1"},
		{"1--1", "1 - -1"},
		{"1---1", "1 - --1"},
		{"1+-1", "1 + -1"},
		{"1*- -1", "1 * --1"},
		{"(1)-1", "(1) - 1"},
		{"(-1)-(-1)", "(-1) - (-1)"},
		{"- ( 1 )", "-(1)"},
		{"- x . a-x.b", "-x.a - x.b"},
		{"((( 1 )))", "(((1)))"},
	} {
		checkTold(t, "select "+c.text+behindFirst, "select "+c.told+" from e x")
		checkTold(t, "select 0,"+c.text+" as s"+behindFirst, "select 0, "+c.told+" as s from e x")
		checkTold(t, "select 0 from e x where"+" "+c.text+"="+c.text+" and "+c.text+"<"+c.text, "select 0 from e x where "+c.told+" = "+c.told+" and "+c.told+" < "+c.told)
		checkTold(t, "select max("+c.text+")over(partition by "+c.text+","+c.text+" order by "+c.text+")"+behindFirst, "select max("+c.told+") over (partition by "+c.told+", "+c.told+" order by "+c.told+") from e x")
	}
	checkTold(t, "select -  - 2*(  x . a )from e x", "select --2 * (x.a) from e x")
	checkAllWrong(t, []wrong{
		{"select +1 from e x", api.ErrSyntax, 7},
		{"select 1 + from e x", api.ErrSyntax, 11},
		{"select 1 + + 1 from e x", api.ErrSyntax, 11},
		{"select 1 * * 1 from e x", api.ErrSyntax, 11},
		{"select - from e x", api.ErrSyntax, 9},
		{"select -", api.ErrSyntax, 8},
		{"select 1 -", api.ErrSyntax, 10},
		{"select () from e x", api.ErrSyntax, 8},
		{"select (", api.ErrSyntax, 8},
		{"select (1 from e x", api.ErrSyntax, 10},
		{"select (1", api.ErrSyntax, 9},
		{"select (1, 2) from e x", api.ErrSyntax, 9},
		{"select 1) from e x", api.ErrSyntax, 8},
		{"select x", api.ErrSyntax, 8},
		{"select x from e x", api.ErrSyntax, 9},
		{"select x.", api.ErrSyntax, 9},
		{"select x.1 from e x", api.ErrSyntax, 9},
		{"select x.a.b from e x", api.ErrSyntax, 10},
		{"select .a from e x", api.ErrSyntax, 7},
		{"select 1.5 from e x", api.ErrSyntax, 8},
		{"select 1 x.a from e x", api.ErrSyntax, 9},
		{"select (select 1 from e x) from e x", api.ErrSyntax, 8},
	})
}

func TestDeep(t *testing.T) { // P4
	most := api.MaxDeep
	open, shut := strings.Repeat("(", most), strings.Repeat(")", most)
	both := strings.Repeat("(-", most/2)
	for _, expr := range []string{
		open + "1" + shut,
		open + "x.a" + shut + " + " + open + "x.b" + shut,
		strings.Repeat("-", most) + "1",
		both + "1" + strings.Repeat(")", most/2),
		"((1)) * " + open + "1 + 2 * x.a" + shut + " - ((1))",
	} {
		checkSame(t, "select "+expr+behindFirst)
		checkSame(t, "select 0 from e x where "+expr+" = "+expr)
		checkSame(t, "select sum("+expr+") over (partition by "+expr+" order by "+expr+") from e x")
	}
	for _, there := range []string{"1", "x", "-", "(", ")", "+", "select", "from e x", "1" + shut + ")" + behindFirst, ""} {
		checkAllWrong(t, []wrong{
			{"select " + open + "(" + there, api.ErrMany, 8 + most},
			{"select " + open + "-" + there, api.ErrMany, 8 + most},
			{"select " + open + "-  " + there, api.ErrMany, 10 + most},
			{"select " + strings.Repeat("-", most) + "(" + there, api.ErrMany, 8 + most},
			{"select " + strings.Repeat("-", most) + "-" + there, api.ErrMany, 8 + most},
			{"select " + both + "(" + there, api.ErrMany, 8 + most},
			{"select sum(" + open + "(" + there, api.ErrMany, 12 + most},
			{"select 0 from e x where 1 = 1 + " + open + "(" + there, api.ErrMany, 33 + most},
		})
	}
	checkWrong(t, "select "+open, api.ErrSyntax, 7+most)
	checkWrong(t, "select "+open+")", api.ErrSyntax, 7+most)
	checkWrong(t, "select "+open+"1 + -1", api.ErrMany, 12+most)
	checkWrong(t, "select "+open+"1"+shut+")", api.ErrSyntax, 8+2*most)
	checkWrong(t, "select "+strings.Repeat("(", 900), api.ErrMany, 8+most)
	checkWrong(t, "select "+strings.Repeat("-", 900), api.ErrMany, 8+most)
}

// ofMost is so many of one, with commas between them.
func ofMost(most int, one string) string {
	return strings.Repeat(one+", ", most-1) + one
}

func TestMany(t *testing.T) { // P4
	items, names, sources := ofMost(api.MaxColumns, "1"), ofMost(api.MaxColumns, "a"), ofMost(api.MaxSources, "e x")
	checkSame(t, "select "+items+" from "+sources)
	checkSame(t, "select "+ofMost(api.MaxColumns, "count() over () as n")+behindFirst)
	checkSame(t, "with r ("+names+") as (select "+items+" from "+sources+" union select "+items+" from "+sources+") select "+items+" from "+sources)
	inner := "with r (a) as (select 1 from e x union "
	for _, begin := range []string{
		"select " + items + ",",
		"select 1 from " + sources + ",",
		"with r (" + names + ",",
		"with r (a) as (select " + items + ",",
		"with r (a) as (select 1 from " + sources + ",",
		inner + "select " + items + ",",
		inner + "select 1 from " + sources + ",",
		inner + "select 1 from e x) select " + items + ",",
		inner + "select 1 from e x) select 1 from " + sources + ",",
	} {
		for _, there := range []string{"1", "a", "e x", "-", "(", ")", ",", "from", "select", "count() over ()", ""} {
			checkWrong(t, begin+there, api.ErrMany, len(begin))
			checkWrong(t, begin+"\n "+there, api.ErrMany, len(begin)+2)
		}
	}
	checkAllWrong(t, []wrong{
		{"select " + items, api.ErrSyntax, 7 + len(items)},
		{"select " + items + " 1", api.ErrSyntax, 8 + len(items)},
		{"select 1 from e, f y, g z, h u, i v", api.ErrSyntax, 15},
		{"select 1,1,1,1,1,(,1", api.ErrSyntax, 18},
		{"select 1,1,1,1,1,1,1,?", api.ErrByte, 21},
		{"select 1,1,1,1,1,1," + strings.Repeat("(", 17), api.ErrMany, 19},
	})
}
