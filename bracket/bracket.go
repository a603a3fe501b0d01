// Package bracket: the brackets, which hold which values are less than those ahead of them.
package bracket

import "strata/bitrow"

// Row gives the brackets of the values.
func Row(values []uint64) bitrow.Row {
	row := make([]bool, 0, 2*len(values))
	var stack []uint64
	for _, v := range values {
		// Equal values stay: so the first of the least is found, not the last.
		for len(stack) > 0 && stack[len(stack)-1] > v {
			stack = stack[:len(stack)-1]
			row = append(row, false)
		}
		stack = append(stack, v)
		row = append(row, true)
	}
	row = append(row, make([]bool, len(stack))...)
	return bitrow.Of(row)
}
