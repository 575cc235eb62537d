package quarry

import (
	"errors"
	"reflect"
	"slices"
	"strconv"
	"strings"
	"sync"
	"testing"
	"unsafe"

	"quarry/api"
	"quarry/syntax"
)

// mixed: texts of all kinds: plain ones, windows, `with`, errors with and without a place, and some that are there again. Of 11 different ones 8 are queries.
func mixed() []string {
	return []string{
		"select x.a as n from e x where x.a > 2",
		"select",
		"with r(a, b) as (select x.a, x.b from e x union select r.a, x.b from r r, e x where r.b = x.a) select r.b from r r where r.a = 1",
		"select x.a, sum(x.a) over (order by x.b rows 1 preceding) as s from e x",
		"select x.z from e x",
		"with r(a) as (select 1 from e x union select r.a * 4 + x.a from r r, e x) select r.a from r r",
		"",
		"select x.a as n from e x where x.a > 2",
		"select x.a as n from e x  where x.a > 2",
		"select 1 from e x where 1 = 2",
		"select 1 from e x" + strings.Repeat(" ", api.MaxText),
		"select",
		"select 1 from q x",
		"with r(a) as (select 1 from e x union select r.a * 4 + x.a from r r, e x) select r.a from r r",
		"select x.a as n from e x where x.a > 2",
	}
}

const mixedKnown = 8

// checkAll: All answers, of each text in its place, what another quarry's Ask says of it.
func checkAll(t *testing.T, q *Quarry, texts []string) []api.Result {
	t.Helper()
	results := q.All(texts)
	if len(results) != len(texts) {
		t.Fatalf("All of %d texts gives %d results", len(texts), len(results))
	}
	other := mustNew(t, edges())
	for i, text := range texts {
		a, err := other.Ask(text)
		if !sameAnswer(results[i].Answer, a) || !reflect.DeepEqual(results[i].Err, err) {
			t.Errorf("All: %d: %q = %v, want %v, %v", i, text, results[i], a, err)
		}
		if err != nil && (results[i].Answer.Columns != nil || results[i].Answer.Rows != nil) {
			t.Errorf("All: %d: %q: %v beside an error", i, text, results[i].Answer)
		}
	}
	return results
}

func TestAll(t *testing.T) { // P12
	q := mustNew(t, edges())
	checkAll(t, q, nil)
	checkAll(t, q, []string{})
	checkKnown(t, q, 0)
	checkAll(t, q, mixed()[:1])
	checkKnown(t, q, 1)
	checkAll(t, q, mixed())
	checkKnown(t, q, mixedKnown)
	checkAll(t, q, mixed())
	checkKnown(t, q, mixedKnown)
	for _, text := range mixed() {
		p := mustNew(t, edges())
		checkAll(t, p, []string{text})
		a, err := p.Ask(text)
		b, again := q.Ask(text)
		if !sameAnswer(a, b) || !reflect.DeepEqual(err, again) {
			t.Errorf("Ask(%q) = %v, %v, but of another quarry %v, %v", text, a, err, b, again)
		}
	}
}

func TestAllErrors(t *testing.T) { // P12, P1: each result has its own error, and nothing beside it
	q := mustNew(t, edges())
	results := q.All([]string{"select 1 from e x", "select", "select x.z from e x", "with r(a) as (select 1 from e x union select r.a + 1 from r r) select 1 from e x", strings.Repeat(" ", 1001)})
	for i, want := range []error{nil, api.ErrSyntax, api.ErrColumn, api.ErrMany, api.ErrLong} {
		if !errors.Is(results[i].Err, want) || (results[i].Answer.Columns != nil) != (want == nil) || (results[i].Answer.Rows != nil) != (want == nil) {
			t.Errorf("result %d is %v, want %v", i, results[i], want)
		}
	}
	for i, place := range map[int]int{1: 6, 2: 9} {
		var at *api.At
		if !errors.As(results[i].Err, &at) || at.Place != place {
			t.Errorf("result %d is %v, want one at %d", i, results[i].Err, place)
		}
	}
	if results[3].Err != api.ErrMany || results[4].Err != api.ErrLong {
		t.Errorf("%v and %v are to be without a place", results[3].Err, results[4].Err)
	}
}

func TestAllOfMany(t *testing.T) { // P12: each in its place, however many there are
	q := mustNew(t, edges())
	for n := range 70 {
		var texts []string
		for i := range n {
			texts = append(texts, "select x.a + "+strconv.Itoa(i)+" from e x where x.a = 1")
		}
		for i, result := range q.All(texts) {
			if result.Err != nil || !sameRows(result.Answer.Rows, column(i+1)) {
				t.Errorf("of %d: %d: %v", n, i, result)
			}
		}
		checkKnown(t, q, n)
	}
	same := slices.Repeat([]string{"select x.a from e x"}, 1000)
	for _, result := range q.All(same) {
		if result.Err != nil || !sameRows(result.Answer.Rows, upTo(4)) {
			t.Fatalf("%v", result)
		}
	}
	checkKnown(t, q, 70)
	checkAll(t, q, slices.Repeat(mixed(), 20))
	checkKnown(t, q, 70+mixedKnown)
}

func TestAllOwnLists(t *testing.T) { // P2: the lists of all results are the caller's own
	q := mustNew(t, edges())
	texts := slices.Repeat(mixed(), 3)
	kept := q.All(texts)
	for at := range texts {
		other := q.All(texts)
		spoil(other[at].Answer)
		other[at].Err = nil
		for i, result := range other {
			if i != at && (!sameAnswer(result.Answer, kept[i].Answer) || !reflect.DeepEqual(result.Err, kept[i].Err)) {
				t.Fatalf("results %d and %d share room: %v", at, i, result)
			}
		}
		clear(other[:cap(other)])
	}
	checkAll(t, q, texts)
}

func TestAllOwnErrors(t *testing.T) { // P2: an error that its caller writes into is no other caller's
	q := mustNew(t, edges())
	for range 2 {
		results := q.All([]string{"select", "select x.z from e x", "select", "select x.z from e x"})
		for i, result := range results {
			var at *api.At
			if !errors.As(result.Err, &at) || at.Place != []int{6, 9}[i%2] {
				t.Fatalf("result %d is %v", i, result)
			}
			at.Place, at.Err = -1, nil
		}
	}
	checkWrong(t, q, "select", api.ErrSyntax, 6)
	checkWrong(t, q, "select x.z from e x", api.ErrColumn, 9)
}

func TestAllHandedIn(t *testing.T) { // P2: neither written into nor kept
	q := mustNew(t, edges())
	room := []byte("select x.a as n from e x")
	whole := append(mixed(), unsafe.String(&room[0], len(room)), "spare")
	texts := whole[:len(whole)-1]
	results := q.All(texts)
	if want := append(mixed(), "select x.a as n from e x", "spare"); !slices.Equal(whole, want) {
		t.Errorf("All has made of the texts %q", whole)
	}
	copy(room, "select x.b as m from e q")
	clear(whole)
	if last := results[len(results)-1]; !sameAnswer(last.Answer, api.Answer{Columns: []string{"n"}, Rows: upTo(4)}) {
		t.Errorf("an answer has become %v", last)
	}
	checkKnown(t, q, mixedKnown+1)
	checkAll(t, q, []string{"select x.a as n from e x", "select x.b as m from e q"})
	checkKnown(t, q, mixedKnown+2)
	checkAll(t, q, mixed())
	checkKnown(t, q, mixedKnown+2)
}

func TestManyAtOnce(t *testing.T) { // P12: Ask, All and Known from many goroutines
	q := mustNew(t, edges())
	texts := mixed()
	want := mustNew(t, edges()).All(texts)
	var all sync.WaitGroup
	for n := range 16 {
		all.Go(func() {
			for i := range 10 {
				for j, result := range q.All(texts) {
					if !sameAnswer(result.Answer, want[j].Answer) || !reflect.DeepEqual(result.Err, want[j].Err) {
						t.Errorf("All: %q = %v", texts[j], result)
					}
					spoil(result.Answer)
				}
				j := (n + i) % len(texts)
				a, err := q.Ask(texts[j])
				if !sameAnswer(a, want[j].Answer) || !reflect.DeepEqual(err, want[j].Err) {
					t.Errorf("Ask: %q = %v, %v", texts[j], a, err)
				}
				if known := q.Known(); known != mixedKnown {
					t.Errorf("Known() = %d behind All", known)
				}
			}
		})
	}
	all.Wait()
	checkKnown(t, q, mixedKnown)
}

func TestKnownByWhom(t *testing.T) { // P12: one for each different text, whoever asks first
	q := mustNew(t, edges())
	q.All([]string{"select 1 from e x", "select 2 from e x", "select 1 from e x", "select 1 from", "select 3 from q x"})
	checkKnown(t, q, 3)
	q.Ask("select 2 from e x")
	checkKnown(t, q, 3)
	q.Ask("select 4 from e x")
	checkKnown(t, q, 4)
	q.All([]string{"select 4 from e x", "select 4 from e x "})
	checkKnown(t, q, 5)
	query := "with r(a) as (select 1 from e x union select 1 from e x) select 1 from e x"
	q.All([]string{query, strings.Replace(query, "with r", "with e", 1), query + ")", query})
	checkKnown(t, q, 7)
}

func TestReadOnce(t *testing.T) { // Ways: each text is read once, whoever asks first
	q := mustNew(t, edges())
	for i := range 50 {
		text := "select " + strconv.Itoa(i) + " from e x"
		parts := make([]*syntax.Query, 20)
		var all sync.WaitGroup
		for j := range parts {
			all.Go(func() { parts[j], _ = q.kept.parts(text) })
		}
		all.Wait()
		for _, one := range parts {
			if one == nil || one != parts[0] {
				t.Fatalf("%q was read more than once", text)
			}
		}
	}
	checkKnown(t, q, 50)
	// so is one with an error, but it is not known
	q.Ask("select")
	one := q.kept.of["select"]
	one.err = &api.At{Place: 77, Err: api.ErrByte}
	q.kept.of["select"] = one
	checkWrong(t, q, "select", api.ErrByte, 77)
	checkKnown(t, q, 50)
}

func TestNothingMoreKept(t *testing.T) { // a text that is too long is not read
	q := mustNew(t, edges())
	for n := range 5 {
		checkWrong(t, q, strings.Repeat(" ", api.MaxText+1+n), api.ErrLong, -1)
	}
	q.All([]string{strings.Repeat("a", 100000), "select 1 from e x" + strings.Repeat("\n", api.MaxText)})
	if len(q.kept.of) != 0 {
		t.Errorf("%d texts are kept", len(q.kept.of))
	}
	for range 3 {
		q.All(mixed())
	}
	if len(q.kept.of) != mixedKnown+2 {
		t.Errorf("%d texts are kept", len(q.kept.of))
	}
}
