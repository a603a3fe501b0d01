// Package layer: the layers, which hold the values bit by bit, the highest bit first.
package layer

import (
	"math/bits"
	"slices"

	"strata/bitrow"
)

// Layers are the layers of n values, one behind the other in one row.
type Layers struct {
	row   bitrow.Row
	width int
	n     int
}

// Of makes the layers of the values.
func Of(values []uint64) Layers {
	width := widthOf(values)
	row := make([]bool, 0, width*len(values))
	order := slices.Clone(values)
	down(width, func(bit int) {
		for _, v := range order {
			row = append(row, has(v, bit))
		}
		order = parted(order, bit)
	})
	return Layers{row: bitrow.Of(row), width: width, n: len(values)}
}

// Read makes layers of their bytes, of which there are Size. All bits will do:
// any of them are the layers of some values, if maybe of narrower ones.
func Read(data []byte, width int, n int) Layers {
	return Layers{row: bitrow.Read(data, width*n), width: width, n: n}
}

// Size tells how many bytes the layers of n values have.
func Size(width int, n int) int { return bitrow.Size(width * n) }

// widthOf tells how many bits the greatest value has.
func widthOf(values []uint64) int {
	all := uint64(0)
	for _, v := range values {
		all |= v
	}
	return bits.Len64(all)
}

// parted gives the values with a 0 at the bit, then those with a 1.
func parted(order []uint64, bit int) []uint64 {
	zeros := make([]uint64, 0, len(order))
	var ones []uint64
	for _, v := range order {
		if has(v, bit) {
			ones = append(ones, v)
		} else {
			zeros = append(zeros, v)
		}
	}
	return append(zeros, ones...)
}

func has(v uint64, bit int) bool {
	return v>>bit&1 == 1
}

// down goes from the first layer to the last and leaves to a closure what is
// done there, so that there is one way down, whatever is wanted on it.
func down(width int, at func(bit int)) {
	for bit := width - 1; bit >= 0; bit-- {
		at(bit)
	}
}

// Len tells how many values there are.
func (y Layers) Len() int { return y.n }

// Width tells how many layers there are.
func (y Layers) Width() int { return y.width }

// Bytes gives the layers as bytes.
func (y Layers) Bytes() []byte { return y.row.Bytes() }
