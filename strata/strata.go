// Package strata: an index over a row of numbers, in few bits: see DOC.md.
package strata

import (
	"strata/api"
	"strata/bitrow"
	"strata/bracket"
	"strata/layer"
	"strata/mark"
	"strata/sum"
)

const magic = "STRA"

// Index is an index over values and marks. It keeps bits alone: no list that
// was handed in, so that nobody can change it from outside.
type Index struct {
	width    int
	n        int
	m        int
	layers   bitrow.Row
	brackets bitrow.Row
	marks    bitrow.Row
}

// Build makes an index (P3).
func Build(values []uint64, marks []int) (*Index, api.Errno) {
	n := len(values)
	if n > api.MaxValues {
		return nil, api.ErrLong
	}
	if !mark.Fit(marks, n) {
		return nil, api.ErrMarks
	}
	width := layer.Width(values)
	return &Index{
		width:    width,
		n:        n,
		m:        len(marks),
		layers:   layer.Row(values, width),
		brackets: bracket.Row(values),
		marks:    mark.Row(marks, n),
	}, api.OK
}

// Encode gives its bytes (P4).
func (x *Index) Encode() []byte {
	// A refused Build leaves its caller with no index: that must not panic.
	if x == nil {
		return nil
	}
	out := sum.AppendWith(nil, x.head())
	out = sum.AppendWith(out, x.layers.Bytes())
	out = sum.AppendWith(out, x.brackets.Bytes())
	return sum.AppendWith(out, x.marks.Bytes())
}

// head gives the head without its sum.
func (x *Index) head() []byte {
	out := append([]byte(magic), api.Version, byte(x.width))
	return append(out, byte(x.n), byte(x.n>>8), byte(x.m), byte(x.m>>8))
}

// Load makes an index of bytes (P5).
func Load(data []byte) (*Index, api.Errno) { return nil, api.OK }

// Size tells how many values and marks there are (P6).
func (x *Index) Size() (int, int) { return 0, 0 }

// Access tells a value (P6).
func (x *Index) Access(i int) (uint64, api.Errno) { return 0, api.OK }

// Least tells where the least of a part stands first (P7).
func (x *Index) Least(l int, r int) (int, api.Errno) { return 0, api.OK }

// Nth tells the k-th of a part, by size (P7).
func (x *Index) Nth(l int, r int, k int) (uint64, api.Errno) { return 0, api.OK }

// Count tells how many of a part lie between two values (P7).
func (x *Index) Count(l int, r int, lo uint64, hi uint64) (int, api.Errno) { return 0, api.OK }

// Rank tells how often a value stands ahead of a place (P6).
func (x *Index) Rank(v uint64, i int) (int, api.Errno) { return 0, api.OK }

// Select tells where a value stands for the k-th time (P6).
func (x *Index) Select(v uint64, k int) (int, api.Errno) { return 0, api.OK }

// Before tells the last mark that is not behind a place (P8).
func (x *Index) Before(p int) (int, api.Errno) { return 0, api.OK }

// After tells the first mark that is not ahead of a place (P8).
func (x *Index) After(p int) (int, api.Errno) { return 0, api.OK }
