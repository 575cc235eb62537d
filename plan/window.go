package plan

import (
	"cmp"
	"slices"
)

// window is a window whose names have been found.
type window struct {
	call      call
	of        value
	partition []value
	order     []value
	ahead     int // how many rows ahead of a row its frame has, at most
}

// call works out the number of a row: of its place in its part, from 1 on, and
// of the numbers of its frame, which has the row itself and so is never empty.
type call func(place int, frame []int) int

func callNamed(name string) call {
	switch name {
	case "row_number":
		return func(place int, _ []int) int { return place }
	case "count":
		return func(_ int, frame []int) int { return len(frame) }
	case "sum":
		return func(_ int, frame []int) int { return sum(frame) }
	case "min":
		return func(_ int, frame []int) int { return slices.Min(frame) }
	}
	return func(_ int, frame []int) int { return slices.Max(frame) }
}

func sum(numbers []int) int {
	total := 0
	for _, n := range numbers {
		total += n
	}
	return total
}

// seat is a row, by its number, with what says where it sits in the window.
type seat struct {
	row   int
	part  []int
	order []int
}

// numbers gives the number of each row. Seats of one part are side by side, so
// that a part begins where its numbers are others than those of the seat ahead.
func (w *window) numbers(rows [][]int) []int {
	seats := w.seats(rows)
	of := make([]int, len(seats))
	for i, s := range seats {
		of[i] = w.of(rows[s.row])
	}
	numbers := make([]int, len(rows))
	start := 0
	for i, s := range seats {
		if !slices.Equal(s.part, seats[start].part) {
			start = i
		}
		frame := of[max(start, i-w.ahead) : i+1]
		numbers[s.row] = w.call(i-start+1, frame)
	}
	return numbers
}

// seats gives the rows as the window orders them. The sort is a stable one,
// because rows that are alike stay as they came.
func (w *window) seats(rows [][]int) []seat {
	seats := make([]seat, len(rows))
	for i, row := range rows {
		seats[i] = seat{i, each(w.partition, row), each(w.order, row)}
	}
	slices.SortStableFunc(seats, func(a, b seat) int {
		return cmp.Or(slices.Compare(a.part, b.part), slices.Compare(a.order, b.order))
	})
	return seats
}

func each(values []value, row []int) []int {
	numbers := make([]int, len(values))
	for i, v := range values {
		numbers[i] = v(row)
	}
	return numbers
}
