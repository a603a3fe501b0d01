// Package strata: an index over a row of numbers, in few bits: see DOC.md.
package strata

import (
	"strata/api"
	"strata/bracket"
	"strata/layer"
	"strata/mark"
	"strata/sum"
)

const magic = "STRA"

// Index is an index over values and marks. It keeps bits alone: no list that
// was handed in, so that nobody can change it from outside.
type Index struct {
	layers   layer.Layers
	brackets bracket.Brackets
	marks    mark.Marks
}

// Build makes an index (P3).
func Build(values []uint64, marks []int) (*Index, api.Errno) {
	n := len(values)
	if n > api.MaxValues {
		return nil, api.ErrLong
	}
	if !mark.Fit(marks, n) {
		return nil, api.ErrMarks
	}
	return &Index{
		layers:   layer.Of(values),
		brackets: bracket.Of(values),
		marks:    mark.Of(marks, n),
	}, api.OK
}

// Encode gives its bytes (P4).
func (x *Index) Encode() []byte {
	// A refused Build leaves its caller with no index: that must not panic.
	if x == nil {
		return nil
	}
	out := sum.AppendWith(nil, x.head())
	out = sum.AppendWith(out, x.layers.Bytes())
	out = sum.AppendWith(out, x.brackets.Bytes())
	return sum.AppendWith(out, x.marks.Bytes())
}

// head gives the head without its sum.
func (x *Index) head() []byte {
	n, m := x.Size()
	out := append([]byte(magic), api.Version, byte(x.layers.Width()))
	return append(out, byte(n), byte(n>>8), byte(m), byte(m>>8))
}
