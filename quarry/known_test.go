package quarry

import (
	"strconv"
	"strings"
	"sync"
	"testing"
	"unsafe"

	"quarry/api"
)

func checkKnown(t *testing.T, q *Quarry, want int) {
	t.Helper()
	if n := q.Known(); n != want {
		t.Errorf("Known() = %d, want %d", n, want)
	}
}

func TestKnown(t *testing.T) { // P12
	q := mustNew(t, ones("t", 200))
	checkKnown(t, q, 0)
	for _, c := range []struct {
		text string
		want int
	}{
		{"select 1 from t x", 1},
		{"select 1 from t x", 1},
		{"select 1  from t x", 2},
		{"select 1 from t x ", 3},
		{"select 1 from t x\n", 4},
		{" select 1 from t x", 5},
		{"select 01 from t x", 6},
		{"select (1) from t x", 7},
		{"select 1 from t x", 7},
		{"", 7},
		{"?", 7},
		{"select", 7},
		{"select 1 from t", 7},
		{"select 1000000001 from t x", 7},
		{"select 1 from t x, t y, t z, t w", 7},
		{"select " + strings.Repeat("-", 17) + "1 from t x", 7},
		{"select 1 from t x" + strings.Repeat(" ", api.MaxText), 7},
		{"select x.z from t x", 8},
		{"select x.z from t x", 8},
		{"select y.a from t x", 9},
		{"select 1 from q x", 10},
		{"select 1 from t x, t x", 11},
		{"select 1 from t x, t y", 12}, // ErrMany without a place
		{"select 1 from t x, t y", 12},
		{"select  1 from t x", 13},
	} {
		q.Ask(c.text)
		if n := q.Known(); n != c.want {
			t.Errorf("behind %q: Known() = %d, want %d", c.text, n, c.want)
		}
		checkKnown(t, q, c.want)
	}
}

func TestTextIsNotKept(t *testing.T) { // P2: what the text lies in may be another text later
	q := mustNew(t, edges())
	room := []byte("select x.a as n from e x")
	text := unsafe.String(&room[0], len(room))
	checkRows(t, q, text, column(1, 2, 3, 4))
	copy(room, "select x.b as m from e x")
	checkRows(t, q, text, column(1, 2, 3, 4))
	checkKnown(t, q, 2)
	copy(room, "????????????????????????")
	for _, name := range []string{"a as n", "b as m"} {
		a, err := q.Ask("select x." + name + " from e x")
		if err != nil || len(a.Columns) != 1 || !strings.HasSuffix(name, a.Columns[0]) {
			t.Errorf("%s: %v, %v", name, a, err)
		}
	}
	checkKnown(t, q, 2)
}

func TestAskedAgain(t *testing.T) { // P12: what is kept answers as what is read
	q := mustNew(t, edges())
	for range 3 {
		checkRows(t, q, "select x.a from e x where x.b > 2", column(2, 4))
		checkWrong(t, q, "select x.c from e x", api.ErrColumn, 9)
		checkWrong(t, q, "select", api.ErrSyntax, 6)
	}
	checkKnown(t, q, 2)
}

func TestKnownOfMany(t *testing.T) {
	q := mustNew(t, edges())
	var all sync.WaitGroup
	for range 8 {
		all.Go(func() {
			for i := range 100 {
				n := strconv.Itoa(i)
				a, err := q.Ask("select " + n + " from e x where x.a = 1")
				if err != nil || !sameRows(a.Rows, column(i)) {
					t.Errorf("asked for %d: %v, %v", i, a.Rows, err)
				}
				q.Ask("select " + n)
				q.Known()
			}
		})
	}
	all.Wait()
	checkKnown(t, q, 100)
}
