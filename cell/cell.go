// Package cell is layer 1: see shared/doc/01-cell.md.
package cell

import (
	"samara/api"
)

// Memory is cells, and how many accesses they have had.
type Memory struct {
	cells []int64
	count int
}

// New answers a memory of n noughts. A number that can't be is taken as the
// nearest one that can: it is no error.
func New(n int) *Memory {
	return &Memory{cells: make([]int64, min(max(n, 0), api.MaxCells))}
}

// Size is how many cells there are.
func (m *Memory) Size() int {
	return len(m.cells)
}

// Count is how many accesses there were that were no errors.
func (m *Memory) Count() int {
	return m.count
}

// Load tells what is in the cell i.
func (m *Memory) Load(i int) (int64, api.Errno) {
	c, e := m.access(i)
	if e != api.OK {
		return 0, e
	}
	return *c, api.OK
}

// Store makes the cell i v.
func (m *Memory) Store(i int, v int64) api.Errno {
	c, e := m.access(i)
	if e != api.OK {
		return e
	}
	*c = v
	return api.OK
}

// Add makes the cell i d more, and tells what was there ahead of that.
func (m *Memory) Add(i int, d int64) (int64, api.Errno) {
	c, e := m.access(i)
	if e != api.OK {
		return 0, e
	}
	was := *c
	*c = was + d
	return was, api.OK
}

// Swap makes the cell i fresh, if it is old, and tells whether it was. One
// that finds another number has looked all the same: it is an access too.
func (m *Memory) Swap(i int, old, fresh int64) (bool, api.Errno) {
	c, e := m.access(i)
	if e != api.OK {
		return false, e
	}
	if *c != old {
		return false, api.OK
	}
	*c = fresh
	return true, api.OK
}

// Look tells the cells from i on, at most n. It is for whoever looks on from
// outside, so it isn't counted.
func (m *Memory) Look(i, n int) []int64 {
	var seen []int64
	// The first cell that isn't there ends it: so no sum of i and n, that
	// could go round, is needed.
	for at := max(i, 0); len(seen) < n; at++ {
		c, ok := m.find(at)
		if !ok {
			break
		}
		seen = append(seen, *c)
	}
	return seen
}

// access finds a cell for a call that counts. Only a cell that is there makes
// it an access, so it is counted here, behind the question.
func (m *Memory) access(i int) (*int64, api.Errno) {
	c, ok := m.find(i)
	if !ok {
		return nil, api.ErrArg
	}
	m.count++
	return c, api.OK
}

// find is the one way to a cell: which cells there are is asked nowhere else.
func (m *Memory) find(i int) (*int64, bool) {
	if i < 0 || i >= len(m.cells) {
		return nil, false
	}
	return &m.cells[i], true
}
