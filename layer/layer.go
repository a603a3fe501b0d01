// Package layer: the layers, which hold the values bit by bit, the highest bit first.
package layer

import (
	"math/bits"
	"slices"

	"strata/bitrow"
)

// Width tells how many bits the greatest value has.
func Width(values []uint64) int {
	all := uint64(0)
	for _, v := range values {
		all |= v
	}
	return bits.Len64(all)
}

// Row gives the layers of values of so many bits, one behind the other.
func Row(values []uint64, width int) bitrow.Row {
	row := make([]bool, 0, width*len(values))
	order := slices.Clone(values)
	down(width, func(bit int) {
		for _, v := range order {
			row = append(row, has(v, bit))
		}
		order = parted(order, bit)
	})
	return bitrow.Of(row)
}

// down goes from the first layer to the last and leaves to a closure what is
// done there, so that there is one way down, whatever is wanted on it.
func down(width int, at func(bit int)) {
	for bit := width - 1; bit >= 0; bit-- {
		at(bit)
	}
}

// parted gives the values with a 0 at the bit, then those with a 1.
func parted(order []uint64, bit int) []uint64 {
	zeros := make([]uint64, 0, len(order))
	var ones []uint64
	for _, v := range order {
		if has(v, bit) {
			ones = append(ones, v)
		} else {
			zeros = append(zeros, v)
		}
	}
	return append(zeros, ones...)
}

func has(v uint64, bit int) bool {
	return v>>bit&1 == 1
}
