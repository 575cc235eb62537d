package plan

import (
	"slices"

	"quarry/api"
)

// rows gives the numbers of the items for each row that is chosen. Each is a
// list of its own, which the caller may keep.
func (s *selection) rows() ([][]int, error) {
	chosen, err := s.chosen()
	if err != nil {
		return nil, err
	}
	rows := make([][]int, len(chosen))
	for i := range rows {
		rows[i] = make([]int, len(s.items))
	}
	for j, item := range s.items {
		for i, number := range item(chosen) {
			rows[i][j] = number
		}
	}
	return rows, nil
}

// chosen gives the rows put together, in their order, for which all tests hold.
func (s *selection) chosen() ([][]int, error) {
	made := s.made()
	if made > api.MaxMade {
		return nil, api.ErrMany
	}
	var rows [][]int
	for n := range made {
		if row := s.together(n); s.holds(row) {
			rows = append(rows, row)
		}
	}
	return rows, nil
}

// made is how many rows can be put together. Bounds of sources and of their
// rows keep it small enough for an int.
func (s *selection) made() int {
	n := 1
	for _, one := range s.sources {
		n *= len(one.table.Rows)
	}
	return n
}

// together puts together the row of this number, from 0 on: the last source's
// row is another one each time, those ahead of it more seldom.
func (s *selection) together(n int) []int {
	row := make([]int, s.width)
	for _, one := range slices.Backward(s.sources) {
		rows := one.table.Rows
		copy(row[one.first:], rows[n%len(rows)])
		n /= len(rows)
	}
	return row
}

func (s *selection) holds(row []int) bool {
	for _, test := range s.tests {
		if !test(row) {
			return false
		}
	}
	return true
}
